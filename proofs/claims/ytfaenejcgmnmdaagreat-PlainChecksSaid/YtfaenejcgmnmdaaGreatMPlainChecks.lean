/- The law PlainChecks: for every input it returns true and leaves what it was given. No condition. -/
import Derived.Test.YtfaenejcgmnmdaaGreatOpen
import Derived.Test.YtfaenejcgmnmdaaGreatVals
import Derived.Deep.Slices
import Derived.Test.YtfaenejcgmnmdaaGreatRecA
import Derived.OpenShut
import Derived.Test.YtfaenejcgmnmdaaGreatPlnB
import Derived.Test.YtfaenejcgmnmdaaGreatPlnQ
import Derived.Test.YtfaenejcgmnmdaaGreatPlnP
import Derived.Test.YtfaenejcgmnmdaaGreatPlnD
import Derived.Test.YtfaenejcgmnmdaaGreatRow
namespace Go.Proofs.YtfaenejcgmnmdaaGreat
open Go.ChangeShapes Go.WideShapes Go.ChangeAt Go.RowKit

instance : Inhabited TVal := ⟨⟨0, 0, ⟨#[]⟩⟩⟩

section
variable {H : Type} {enc : TypeId × Value → H} {P : Program} {W : World}
theorem vals_of_cells {W : World} {a : Addr} {n B : Nat} {f : Nat → TVal} (hB : 0 < n → a.block < B)
    (h : ∀ i, i < n → W.cell? (a.add (i * 3)) = some (.int .i64 (f i).k) ∧ W.cell? (a.add (i * 3 + 1)) = some (.int .i64 (f i).n) ∧ W.cell? (a.add (i * 3 + 2)) = some (.string (f i).s)) :
    HasVals W B (some a) n ((List.range n).map f) := by
  refine ⟨by simp, by rw [valCells_len]; simp, fun k u hu => ⟨a, rfl, ?_, ?_⟩⟩
  · have hk := (List.getElem?_eq_some_iff.1 hu).1
    rw [valCells_len] at hk
    simp at hk
    exact hB (by omega)
  · have hk := (List.getElem?_eq_some_iff.1 hu).1
    rw [valCells_len] at hk
    simp at hk
    have hi : k / 3 < n := by omega
    have hv : ((List.range n).map f)[k / 3]? = some (f (k / 3)) := by simp [hi]
    obtain ⟨c0, c1, c2⟩ := valCells_at _ _ _ hv
    obtain ⟨d0, d1, d2⟩ := h _ hi
    have hj : k = k / 3 * 3 ∨ k = k / 3 * 3 + 1 ∨ k = k / 3 * 3 + 2 := by omega
    rcases hj with e | e | e
    · rw [e] at hu ⊢
      rw [c0] at hu
      rw [d0, ← hu]
    · rw [e] at hu ⊢
      rw [c1] at hu
      rw [d1, ← hu]
    · rw [e] at hu ⊢
      rw [c2] at hu
      rw [d2, ← hu]

theorem open_vals {t e : TypeId} {f0 f1 f2 : Field} {r : Reach} {base : Nat} {v : Value} {d : DataW H} {ps : List MemPlace} (ht : P.underlying t = some (.slice e)) (he : P.underlying e = some (.struct #[f0, f1, f2])) (hC : P.cellsOf e = 3)
    (ho : f0.offset = 0 ∧ f1.offset = 1 ∧ f2.offset = 2) (hc : P.cellsOf f0.type = 1 ∧ P.cellsOf f1.type = 1 ∧ P.cellsOf f2.type = 1)
    (hu : P.underlying f0.type = some (.int .i64) ∧ P.underlying f1.type = some (.int .i64) ∧ P.underlying f2.type = some .string)
    (hval : Value.okWide P W r base t v) (h : DataW.Trod enc P W 0 (fun _ => true) true t v d ps) (hlt : ∀ x ∈ ps, x.block < W.heap.size) :
    ∃ (A : Option Addr) (n c : Nat) (l : List TVal), v = .slice A n c ∧ n ≤ maxLen ∧ n ≤ c ∧ HasVals W W.heap.size A n l ∧ (∀ u ∈ l, InI64 u.n) ∧ ∀ u ∈ l, u.s.size ≤ maxLen := by
  obtain ⟨A, n, c, rfl⟩ := okWide_slice ht hval
  obtain ⟨fuel, hf⟩ := h
  rcases Go.Deep.open_slice ht hf with ⟨hcs, _⟩ | ⟨a, len, cap, m, n', D, Pl, hcs, _, hle, hmax, hm, hx, hi⟩
  · simp [Value.cells] at hcs
    obtain ⟨rfl, rfl, rfl⟩ := hcs
    exact ⟨none, 0, 0, [], rfl, by simp [maxLen], Nat.le_refl _, HasVals.nil _ _ _, by simp, by simp⟩
  · simp [Value.cells] at hcs
    obtain ⟨rfl, rfl, rfl⟩ := hcs
    simp only [if_true] at hm
    have hm2 := hm.symm
    subst hm2
    have hone : ∀ i, i < n → ∃ u : TVal, (W.cell? (a.add (i * 3)) = some (.int .i64 u.k) ∧ W.cell? (a.add (i * 3 + 1)) = some (.int .i64 u.n) ∧ W.cell? (a.add (i * 3 + 2)) = some (.string u.s)) ∧ InI64 u.n ∧ u.s.size ≤ maxLen := by
      intro i hin
      obtain ⟨cs', hcells, htrod⟩ := hi i (by omega)
      rw [hC] at hcells
      obtain ⟨_, hlen, hat⟩ := World.cells?_some hcells
      obtain ⟨xs, n1, _, _, _, _, hg⟩ := DataW.trod_struct he htrod
      match cs', hlen with
      | [w0, w1, w2], _ =>
        have g0 := hg 0 f0 rfl
        have g1 := hg 1 f1 rfl
        have g2 := hg 2 f2 rfl
        rw [ho.1, hc.1] at g0
        rw [ho.2.1, hc.2.1] at g1
        rw [ho.2.2, hc.2.2] at g2
        have hxs : xs.length = 3 := by assumption
        match xs, hxs with
        | [y0, y1, y2], _ =>
          obtain ⟨z0, e0, _, _⟩ := DataW.trod_int hu.1 g0
          obtain ⟨z1, e1, _, wf1⟩ := DataW.trod_int hu.2.1 g1
          obtain ⟨z2, e2, _, hz2⟩ := DataW.trod_string hu.2.2 g2
          simp at e0 e1 e2
          subst e0
          subst e1
          subst e2
          have c0 := hat 0 (by omega)
          have c1 := hat 1 (by omega)
          have c2 := hat 2 (by omega)
          rw [Go.Deep.add_add] at c0 c1 c2
          have bd := bounds_i64 wf1
          exact ⟨⟨z0, z1, z2⟩, ⟨c0, c1, c2⟩, by unfold InI64; dsimp only; omega, hz2⟩
    obtain ⟨f, hfv⟩ := Go.Deep.choose_lt hone
    refine ⟨some a, n, c, (List.range n).map f, rfl, by omega, hle, vals_of_cells ?_ fun i hin => (hfv i hin).1, ?_, ?_⟩
    · intro hn
      simp only [Prod.mk.injEq] at hx
      obtain ⟨p, hp, hpb⟩ := row_block (a := a) (n := c * P.cellsOf e) (by rw [hC]; omega)
      rw [← hpb]
      refine hlt p ?_
      rw [hx.2]
      exact List.mem_append_left _ hp
    · intro u hu'
      obtain ⟨i, hin, rfl⟩ := List.mem_map.1 hu'
      exact (hfv i (List.mem_range.1 hin)).2.1
    · intro u hu'
      obtain ⟨i, hin, rfl⟩ := List.mem_map.1 hu'
      exact (hfv i (List.mem_range.1 hin)).2.2
end

end Go.Proofs.YtfaenejcgmnmdaaGreat

namespace Go.Proofs.YtfaenejcgmnmdaaGreat
open Go.ChangeShapes Go.WideShapes Go.ChangeAt Go.RowKit

section
variable {H : Type} {enc : TypeId × Value → H} {P : Program} {W : World}
theorem open_index {t e : TypeId} {f0 f1 : Field} {r : Reach} {base : Nat} {v : Value} {d : DataW H} {ps : List MemPlace} (ht : P.underlying t = some (.struct #[f0, f1])) (hC : P.cellsOf t = 2) (ho : f0.offset = 0 ∧ f1.offset = 1) (hc : P.cellsOf f0.type = 1 ∧ P.cellsOf f1.type = 1)
    (hu : P.underlying f0.type = some (.int .i64) ∧ P.underlying f1.type = some (.slice e)) (he : P.underlying e = some (.int .i64)) (hce : P.cellsOf e = 1)
    (hval : Value.okWide P W r base t v) (h : DataW.Trod enc P W 0 (fun _ => true) true t v d ps) (hlt : ∀ x ∈ ps, x.block < W.heap.size) :
    ∃ (id : Int) (A : Option Addr) (n c : Nat) (zs : List Int), v = .agg #[.int .i64 id, .slice A n c] ∧ n ≤ maxLen ∧ n ≤ c ∧ HasInts W W.heap.size A n zs := by
  obtain ⟨cs, rfl, hsz⟩ := okWide_struct ht hval
  obtain ⟨fuel, hf⟩ := h
  rw [hC] at hsz
  obtain ⟨y0, y1, n1, hx, _, g0, g1⟩ := trod_struct2 ht hf
  obtain ⟨l⟩ := cs
  match l, hsz with
  | [u0, u1], _ =>
    rw [ho.1, hc.1] at g0
    rw [ho.2, hc.2] at g1
    obtain ⟨z0, e0, _, _⟩ := DataW.trod_int hu.1 g0
    simp [Value.cells] at e0
    subst e0
    simp only [Prod.mk.injEq] at hx
    rcases open_ints hu.2 he hce g1 with ⟨hcs, _⟩ | ⟨a, len, cap, zs, hcs, _, hle, hmax, hlen, hy, hcell, _⟩
    · simp [Value.cells] at hcs
      subst hcs
      exact ⟨z0, none, 0, 0, [], rfl, by simp [maxLen], Nat.le_refl _, ⟨rfl, Has.nil _ _ _⟩⟩
    · simp [Value.cells] at hcs
      subst hcs
      simp only [if_true] at hlen
      refine ⟨z0, some a, len, cap, zs.take len, rfl, by omega, hle, ⟨by simp; omega, ⟨by simp [intCells]; omega, fun k u hu' => ⟨a, rfl, ?_, ?_⟩⟩⟩⟩
      · have hk : k < len := by
          have := (List.getElem?_eq_some_iff.1 hu').1
          simp [intCells] at this
          omega
        obtain ⟨p, hp, hpb⟩ := row_block (a := a) (n := zs.length) (by omega)
        rw [← hpb]
        refine hlt p ?_
        rw [hx.2, hy]
        exact List.mem_append_right _ hp
      · have hk : k < len := by
          have := (List.getElem?_eq_some_iff.1 hu').1
          simp [intCells] at this
          omega
        have hz : k < zs.length := by omega
        rw [hcell k hz, ← hu']
        simp [intCells, hk, hz]

theorem okWide_array {n : Nat} {e t : TypeId} {r : Reach} {base : Nat} {v : Value} (ht : P.underlying t = some (.array n e)) (h : Value.okWide P W r base t v) : ∃ cs, v = .agg cs ∧ cs.size = P.cellsOf t := by
  simp only [Value.okWide, ht] at h
  obtain ⟨cs, h1, h2, _⟩ := h
  exact ⟨cs, h1, h2⟩
theorem open_int2 {t e : TypeId} {r : Reach} {base : Nat} {v : Value} {d : DataW H} {ps : List MemPlace} (ht : P.underlying t = some (.array 2 e)) (hC : P.cellsOf t = 2) (he : P.underlying e = some (.int .i64)) (hce : P.cellsOf e = 1)
    (hval : Value.okWide P W r base t v) (h : DataW.Trod enc P W 0 (fun _ => true) true t v d ps) : ∃ x y : Int, v = .agg #[.int .i64 x, .int .i64 y] := by
  obtain ⟨cs, rfl, hsz⟩ := okWide_array ht hval
  obtain ⟨fuel, hf⟩ := h
  rw [hC] at hsz
  obtain ⟨xs, m, _, _, _, hl, hg⟩ := DataW.trod_array ht hf
  obtain ⟨l⟩ := cs
  match l, hsz, xs, hl with
  | [u0, u1], _, [y0, y1], _ =>
    have g0 := hg 0 (by omega)
    have g1 := hg 1 (by omega)
    rw [hce] at g0 g1
    obtain ⟨z0, e0, _, _⟩ := DataW.trod_int he g0
    obtain ⟨z1, e1, _, _⟩ := DataW.trod_int he g1
    simp [Value.cells] at e0 e1
    subst e0
    subst e1
    exact ⟨z0, z1, rfl⟩
theorem open_text2 {t e : TypeId} {r : Reach} {base : Nat} {v : Value} {d : DataW H} {ps : List MemPlace} (ht : P.underlying t = some (.array 2 e)) (hC : P.cellsOf t = 2) (he : P.underlying e = some .string) (hce : P.cellsOf e = 1)
    (hval : Value.okWide P W r base t v) (h : DataW.Trod enc P W 0 (fun _ => true) true t v d ps) : ∃ x y : ByteArray, v = .agg #[.string x, .string y] := by
  obtain ⟨cs, rfl, hsz⟩ := okWide_array ht hval
  obtain ⟨fuel, hf⟩ := h
  rw [hC] at hsz
  obtain ⟨xs, m, _, _, _, hl, hg⟩ := DataW.trod_array ht hf
  obtain ⟨l⟩ := cs
  match l, hsz, xs, hl with
  | [u0, u1], _, [y0, y1], _ =>
    have g0 := hg 0 (by omega)
    have g1 := hg 1 (by omega)
    rw [hce] at g0 g1
    obtain ⟨z0, e0, _, _⟩ := DataW.trod_string he g0
    obtain ⟨z1, e1, _, _⟩ := DataW.trod_string he g1
    simp [Value.cells] at e0 e1
    subst e0
    subst e1
    exact ⟨z0, z1, rfl⟩
end

end Go.Proofs.YtfaenejcgmnmdaaGreat

namespace Go.Proofs.YtfaenejcgmnmdaaGreat
open Go.ChangeShapes Go.WideShapes Go.ChangeAt Go.RowKit

/-- the texts of an operation are no longer than a text may be -/
def OpShort (o : TOp) : Prop := (∀ u ∈ o.rc, u.s.size ≤ maxLen) ∧ (∀ u ∈ o.old, u.s.size ≤ maxLen) ∧ (∀ u ∈ o.low, u.s.size ≤ maxLen) ∧ (∀ u ∈ o.high, u.s.size ≤ maxLen) ∧ o.key.size ≤ maxLen ∧ o.to.size ≤ maxLen ∧ InI64 o.k ∧ InI64 o.id ∧ InI64 o.lim
section
variable {H : Type} {enc : TypeId × Value → H} {P : Program} {W : World}
theorem vals_cell {t e : TypeId} {f0 f1 f2 : Field} {u : Value} {d : DataW H} {ps : List MemPlace} {fuel : Nat} (ht : P.underlying t = some (.slice e)) (he : P.underlying e = some (.struct #[f0, f1, f2])) (hC : P.cellsOf e = 3)
    (ho : f0.offset = 0 ∧ f1.offset = 1 ∧ f2.offset = 2) (hc : P.cellsOf f0.type = 1 ∧ P.cellsOf f1.type = 1 ∧ P.cellsOf f2.type = 1)
    (hu : P.underlying f0.type = some (.int .i64) ∧ P.underlying f1.type = some (.int .i64) ∧ P.underlying f2.type = some .string)
    (hf : DataW.trod enc P W 0 (fun _ => true) true fuel t [u] = some (d, ps)) (hlt : ∀ x ∈ ps, x.block < W.heap.size) :
    ∃ l : List TVal, IsVals W W.heap.size u l ∧ ∀ u ∈ l, u.s.size ≤ maxLen := by
  rcases Go.Deep.open_slice ht hf with ⟨hcs, _⟩ | ⟨a, n, c, m, n', D, Pl, hcs, _, hle, hmax, hm, hx, hi⟩
  · simp at hcs
    subst hcs
    exact ⟨[], ⟨none, 0, 0, rfl, Nat.le_refl _, by simp [maxLen], HasVals.nil _ _ _, by simp⟩, by simp⟩
  · simp at hcs
    subst hcs
    simp only [if_true] at hm
    have hm2 := hm.symm
    subst hm2
    have hone : ∀ i, i < n → ∃ u : TVal, (W.cell? (a.add (i * 3)) = some (.int .i64 u.k) ∧ W.cell? (a.add (i * 3 + 1)) = some (.int .i64 u.n) ∧ W.cell? (a.add (i * 3 + 2)) = some (.string u.s)) ∧ InI64 u.n ∧ u.s.size ≤ maxLen := by
      intro i hin
      obtain ⟨cs', hcells, htrod⟩ := hi i (by omega)
      rw [hC] at hcells
      obtain ⟨_, hlen, hat⟩ := World.cells?_some hcells
      obtain ⟨xs, n1, _, _, _, _, hg⟩ := DataW.trod_struct he htrod
      match cs', hlen with
      | [w0, w1, w2], _ =>
        have g0 := hg 0 f0 rfl
        have g1 := hg 1 f1 rfl
        have g2 := hg 2 f2 rfl
        rw [ho.1, hc.1] at g0
        rw [ho.2.1, hc.2.1] at g1
        rw [ho.2.2, hc.2.2] at g2
        have hxs : xs.length = 3 := by assumption
        match xs, hxs with
        | [y0, y1, y2], _ =>
          obtain ⟨z0, e0, _, _⟩ := DataW.trod_int hu.1 g0
          obtain ⟨z1, e1, _, wf1⟩ := DataW.trod_int hu.2.1 g1
          obtain ⟨z2, e2, _, hz2⟩ := DataW.trod_string hu.2.2 g2
          simp at e0 e1 e2
          subst e0
          subst e1
          subst e2
          have c0 := hat 0 (by omega)
          have c1 := hat 1 (by omega)
          have c2 := hat 2 (by omega)
          rw [Go.Deep.add_add] at c0 c1 c2
          have bd := bounds_i64 wf1
          exact ⟨⟨z0, z1, z2⟩, ⟨c0, c1, c2⟩, by unfold InI64; dsimp only; omega, hz2⟩
    obtain ⟨f, hfv⟩ := Go.Deep.choose_lt hone
    refine ⟨(List.range n).map f, ⟨some a, n, c, rfl, hle, by omega, vals_of_cells ?_ fun i hin => (hfv i hin).1, ?_⟩, ?_⟩
    · intro hn
      simp only [Prod.mk.injEq] at hx
      obtain ⟨p, hp, hpb⟩ := row_block (a := a) (n := c * P.cellsOf e) (by rw [hC]; omega)
      rw [← hpb]
      refine hlt p ?_
      rw [hx.2]
      exact List.mem_append_left _ hp
    · intro u hu'
      obtain ⟨i, hin, rfl⟩ := List.mem_map.1 hu'
      exact (hfv i (List.mem_range.1 hin)).2.1
    · intro u hu'
      obtain ⟨i, hin, rfl⟩ := List.mem_map.1 hu'
      exact (hfv i (List.mem_range.1 hin)).2.2
theorem ints_cell {t e : TypeId} {u : Value} {d : DataW H} {ps : List MemPlace} {fuel : Nat} (ht : P.underlying t = some (.slice e)) (he : P.underlying e = some (.int .i64)) (hce : P.cellsOf e = 1)
    (hf : DataW.trod enc P W 0 (fun _ => true) true fuel t [u] = some (d, ps)) (hlt : ∀ x ∈ ps, x.block < W.heap.size) : ∃ l : List Int, IsInts W W.heap.size u l := by
  rcases open_ints ht he hce hf with ⟨hcs, _⟩ | ⟨a, len, cap, zs, hcs, _, hle, hmax, hlen, hy, hcell, hwf⟩
  · simp at hcs
    subst hcs
    exact ⟨[], none, 0, 0, rfl, Nat.le_refl _, by simp [maxLen], ⟨rfl, Has.nil _ _ _⟩, by simp⟩
  · simp at hcs
    subst hcs
    simp only [if_true] at hlen
    have hmem : 0 < len → a.block < W.heap.size := fun h0 => by
      obtain ⟨p, hp, hpb⟩ := row_block (a := a) (n := zs.length) (by omega)
      rw [← hpb]
      refine hlt p ?_
      simp only [Prod.mk.injEq] at hy
      rw [hy.2]
      exact hp
    refine ⟨zs.take len, some a, len, cap, rfl, hle, by omega, ⟨by simp; omega, ⟨by simp [intCells]; omega, fun k u hu' => ⟨a, rfl, ?_, ?_⟩⟩⟩, fun x hx => ?_⟩
    · have hk : k < len := by
        have := (List.getElem?_eq_some_iff.1 hu').1
        simp [intCells] at this
        omega
      exact hmem (by omega)
    · have hk : k < len := by
        have := (List.getElem?_eq_some_iff.1 hu').1
        simp [intCells] at this
        omega
      have hz : k < zs.length := by omega
      rw [hcell k hz, ← hu']
      simp [intCells, hk, hz]
    · have := bounds_i64 (hwf x (List.mem_of_mem_take hx))
      unfold InI64
      omega
end

section
variable {H : Type} {enc : TypeId × Value → H} {W : World}
theorem c_int : Tryz.prog.cellsOf 3 = 1 := by kernel_rfl
theorem c_string : Tryz.prog.cellsOf 9 = 1 := by kernel_rfl
theorem c_rec : Tryz.prog.cellsOf 23 = 1 := by kernel_rfl
theorem c_vals : Tryz.prog.cellsOf 22 = 1 := by kernel_rfl
theorem c_ints : Tryz.prog.cellsOf 24 = 1 := by kernel_rfl
set_option maxRecDepth 100000 in
theorem op_cells {cs : List Value} {x : DataW H × List MemPlace} {fuel : Nat} (hl : cs.length = 12) (h : DataW.trod enc Tryz.prog W 0 (fun _ => true) true fuel 26 cs = some x) (hlt : ∀ y ∈ x.2, y.block < W.heap.size) :
    ∃ (o : TOp) (rv ov fv lv hv : Value), cs = (opCells o rv ov fv lv hv).toList ∧ IsVals W W.heap.size rv o.rc ∧ IsVals W W.heap.size ov o.old ∧ IsInts W W.heap.size fv o.fs ∧ IsVals W W.heap.size lv o.low ∧ IsVals W W.heap.size hv o.high ∧ OpShort o := by
  obtain ⟨xs, n1, u1, u2, u3, u4, hg⟩ := DataW.trod_struct Tryz.underlying26 h
  have hxl : xs.length = 12 := u4
  match cs, hl, xs, hxl with
  | [a0, a1, a2, a3, a4, a5, a6, a7, a8, a9, a10, a11], _, [y0, y1, y2, y3, y4, y5, y6, y7, y8, y9, y10, y11], _ =>
    have g0 : DataW.trod enc Tryz.prog W 0 (fun _ => true) true n1 3 [a0] = some y0 := by
      have g : DataW.trod enc Tryz.prog W 0 (fun _ => true) true n1 3 (List.take (Tryz.prog.cellsOf 3) (List.drop 0 [a0, a1, a2, a3, a4, a5, a6, a7, a8, a9, a10, a11])) = some y0 := hg 0 _ rfl
      rw [c_int] at g
      exact g
    have g1 : DataW.trod enc Tryz.prog W 0 (fun _ => true) true n1 9 [a1] = some y1 := by
      have g : DataW.trod enc Tryz.prog W 0 (fun _ => true) true n1 9 (List.take (Tryz.prog.cellsOf 9) (List.drop 1 [a0, a1, a2, a3, a4, a5, a6, a7, a8, a9, a10, a11])) = some y1 := hg 1 _ rfl
      rw [c_string] at g
      exact g
    have g2 : DataW.trod enc Tryz.prog W 0 (fun _ => true) true n1 9 [a2] = some y2 := by
      have g : DataW.trod enc Tryz.prog W 0 (fun _ => true) true n1 9 (List.take (Tryz.prog.cellsOf 9) (List.drop 2 [a0, a1, a2, a3, a4, a5, a6, a7, a8, a9, a10, a11])) = some y2 := hg 2 _ rfl
      rw [c_string] at g
      exact g
    have g3 : DataW.trod enc Tryz.prog W 0 (fun _ => true) true n1 23 [a3] = some y3 := by
      have g : DataW.trod enc Tryz.prog W 0 (fun _ => true) true n1 23 (List.take (Tryz.prog.cellsOf 23) (List.drop 3 [a0, a1, a2, a3, a4, a5, a6, a7, a8, a9, a10, a11])) = some y3 := hg 3 _ rfl
      rw [c_rec] at g
      exact g
    have g4 : DataW.trod enc Tryz.prog W 0 (fun _ => true) true n1 23 [a4] = some y4 := by
      have g : DataW.trod enc Tryz.prog W 0 (fun _ => true) true n1 23 (List.take (Tryz.prog.cellsOf 23) (List.drop 4 [a0, a1, a2, a3, a4, a5, a6, a7, a8, a9, a10, a11])) = some y4 := hg 4 _ rfl
      rw [c_rec] at g
      exact g
    have g5 : DataW.trod enc Tryz.prog W 0 (fun _ => true) true n1 3 [a5] = some y5 := by
      have g : DataW.trod enc Tryz.prog W 0 (fun _ => true) true n1 3 (List.take (Tryz.prog.cellsOf 3) (List.drop 5 [a0, a1, a2, a3, a4, a5, a6, a7, a8, a9, a10, a11])) = some y5 := hg 5 _ rfl
      rw [c_int] at g
      exact g
    have g6 : DataW.trod enc Tryz.prog W 0 (fun _ => true) true n1 24 [a6] = some y6 := by
      have g : DataW.trod enc Tryz.prog W 0 (fun _ => true) true n1 24 (List.take (Tryz.prog.cellsOf 24) (List.drop 6 [a0, a1, a2, a3, a4, a5, a6, a7, a8, a9, a10, a11])) = some y6 := hg 6 _ rfl
      rw [c_ints] at g
      exact g
    have g7 : DataW.trod enc Tryz.prog W 0 (fun _ => true) true n1 22 [a7] = some y7 := by
      have g : DataW.trod enc Tryz.prog W 0 (fun _ => true) true n1 22 (List.take (Tryz.prog.cellsOf 22) (List.drop 7 [a0, a1, a2, a3, a4, a5, a6, a7, a8, a9, a10, a11])) = some y7 := hg 7 _ rfl
      rw [c_vals] at g
      exact g
    have g8 : DataW.trod enc Tryz.prog W 0 (fun _ => true) true n1 22 [a8] = some y8 := by
      have g : DataW.trod enc Tryz.prog W 0 (fun _ => true) true n1 22 (List.take (Tryz.prog.cellsOf 22) (List.drop 8 [a0, a1, a2, a3, a4, a5, a6, a7, a8, a9, a10, a11])) = some y8 := hg 8 _ rfl
      rw [c_vals] at g
      exact g
    have g9 : DataW.trod enc Tryz.prog W 0 (fun _ => true) true n1 3 [a9] = some y9 := by
      have g : DataW.trod enc Tryz.prog W 0 (fun _ => true) true n1 3 (List.take (Tryz.prog.cellsOf 3) (List.drop 9 [a0, a1, a2, a3, a4, a5, a6, a7, a8, a9, a10, a11])) = some y9 := hg 9 _ rfl
      rw [c_int] at g
      exact g
    have g10 : DataW.trod enc Tryz.prog W 0 (fun _ => true) true n1 3 [a10] = some y10 := by
      have g : DataW.trod enc Tryz.prog W 0 (fun _ => true) true n1 3 (List.take (Tryz.prog.cellsOf 3) (List.drop 10 [a0, a1, a2, a3, a4, a5, a6, a7, a8, a9, a10, a11])) = some y10 := hg 10 _ rfl
      rw [c_int] at g
      exact g
    have g11 : DataW.trod enc Tryz.prog W 0 (fun _ => true) true n1 3 [a11] = some y11 := by
      have g : DataW.trod enc Tryz.prog W 0 (fun _ => true) true n1 3 (List.take (Tryz.prog.cellsOf 3) (List.drop 11 [a0, a1, a2, a3, a4, a5, a6, a7, a8, a9, a10, a11])) = some y11 := hg 11 _ rfl
      rw [c_int] at g
      exact g
    have hm : ∀ (i : Nat), ∀ z ∈ ([y0, y1, y2, y3, y4, y5, y6, y7, y8, y9, y10, y11] : List (DataW H × List MemPlace)), ∀ b ∈ z.2, b.block < W.heap.size := fun _ z hz b hb => hlt b (by rw [u2]; exact List.mem_flatMap.2 ⟨z, hz, hb⟩)
    obtain ⟨z0, e0, _, wf0⟩ := DataW.trod_int Tryz.underlying3 g0
    simp at e0
    subst e0
    have bd0 := bounds_i64 wf0
    obtain ⟨z1, e1, _, hz1⟩ := DataW.trod_string Tryz.underlying9 g1
    simp at e1
    subst e1
    obtain ⟨z2, e2, _, hz2⟩ := DataW.trod_string Tryz.underlying9 g2
    simp at e2
    subst e2
    obtain ⟨l3, v3, w3⟩ := vals_cell Tryz.underlying23 Tryz.underlying67 (by kernel_rfl) ⟨rfl, rfl, rfl⟩ ⟨by kernel_rfl, by kernel_rfl, by kernel_rfl⟩ ⟨by kernel_rfl, by kernel_rfl, by kernel_rfl⟩ g3 (fun b hb => hm 0 y3 (by simp) b hb)
    obtain ⟨l4, v4, w4⟩ := vals_cell Tryz.underlying23 Tryz.underlying67 (by kernel_rfl) ⟨rfl, rfl, rfl⟩ ⟨by kernel_rfl, by kernel_rfl, by kernel_rfl⟩ ⟨by kernel_rfl, by kernel_rfl, by kernel_rfl⟩ g4 (fun b hb => hm 0 y4 (by simp) b hb)
    obtain ⟨z5, e5, _, wf5⟩ := DataW.trod_int Tryz.underlying3 g5
    simp at e5
    subst e5
    have bd5 := bounds_i64 wf5
    obtain ⟨l6, v6⟩ := ints_cell Tryz.underlying24 Tryz.underlying3 (by kernel_rfl) g6 (fun b hb => hm 0 y6 (by simp) b hb)
    obtain ⟨l7, v7, w7⟩ := vals_cell Tryz.underlying22 Tryz.underlying67 (by kernel_rfl) ⟨rfl, rfl, rfl⟩ ⟨by kernel_rfl, by kernel_rfl, by kernel_rfl⟩ ⟨by kernel_rfl, by kernel_rfl, by kernel_rfl⟩ g7 (fun b hb => hm 0 y7 (by simp) b hb)
    obtain ⟨l8, v8, w8⟩ := vals_cell Tryz.underlying22 Tryz.underlying67 (by kernel_rfl) ⟨rfl, rfl, rfl⟩ ⟨by kernel_rfl, by kernel_rfl, by kernel_rfl⟩ ⟨by kernel_rfl, by kernel_rfl, by kernel_rfl⟩ g8 (fun b hb => hm 0 y8 (by simp) b hb)
    obtain ⟨z9, e9, _, wf9⟩ := DataW.trod_int Tryz.underlying3 g9
    simp at e9
    subst e9
    have bd9 := bounds_i64 wf9
    obtain ⟨z10, e10, _, wf10⟩ := DataW.trod_int Tryz.underlying3 g10
    simp at e10
    subst e10
    have bd10 := bounds_i64 wf10
    obtain ⟨z11, e11, _, wf11⟩ := DataW.trod_int Tryz.underlying3 g11
    simp at e11
    subst e11
    have bd11 := bounds_i64 wf11
    exact ⟨⟨z0, z1, z2, l3, l4, z5, l6, l7, l8, z9, z10, z11⟩, a3, a4, a6, a7, a8, rfl, v3, v4, v6, v7, v8, w3, w4, w7, w8, hz1, hz2, by unfold InI64; dsimp only; omega, by unfold InI64; dsimp only; omega, by unfold InI64; dsimp only; omega⟩
set_option maxRecDepth 100000 in
theorem open_op {r : Reach} {base : Nat} {v : Value} {d : DataW H} {ps : List MemPlace} (hval : Value.okWide Tryz.prog W r base 26 v) (h : DataW.Trod enc Tryz.prog W 0 (fun _ => true) true 26 v d ps) (hlt : ∀ x ∈ ps, x.block < W.heap.size) :
    ∃ o : TOp, OpIs W W.heap.size v o ∧ OpShort o := by
  obtain ⟨cs, rfl, hsz⟩ := okWide_struct Tryz.underlying26 hval
  obtain ⟨fuel, hf⟩ := h
  obtain ⟨o, rv, ov, fv, lv, hv, e, h1, h2, h3, h4, h5, h6⟩ := op_cells (cs := cs.toList) (by rw [Array.length_toList, hsz]; kernel_rfl) hf hlt
  have e2 : cs = opCells o rv ov fv lv hv := Array.ext' e
  subst e2
  exact ⟨o, ⟨rv, ov, fv, lv, hv, rfl, h1, h2, h3, h4, h5⟩, h6⟩
end
end Go.Proofs.YtfaenejcgmnmdaaGreat

namespace Go.Proofs.YtfaenejcgmnmdaaGreat
open Go.RowKit
open Go.Lib (strCells compareBytes)

section
variable {B sb mb d : Nat} {ix : Value} {E : Kv (Value × List TVal)} {X : List Ix} {w : World}
theorem isSome_map (k : List UInt8) (E : Kv (Value × List TVal)) : (getK k (mapK (·.2) E)).isSome = (getK k E).isSome := by rw [mapK_get]; cases getK k E <;> rfl
theorem put_do (h : Store w B sb mb ix E X d) (s : ByteArray) (r : Value) (l : List TVal) (C : Nat) (hr : IsVals w C r l) (hC : C ≤ w.heap.size) (hl : GoodRec l) (hk : keyOk s.data.toList = true) (hE : E.length ≤ 1000) :
    Calls Tryz.prog 38 #[.pointer (some ⟨sb, 0, none⟩), .string s, r] w (DoPost B sb mb ix E (putK s.data.toList l (mapK (·.2) E)) (X.map xi) d ⟨0, (getK s.data.toList (mapK (·.2) E)).isSome, [], [], 0⟩ w) := by
  refine (put_any h s r l C hr hC hl hk hE).mono ?_
  rintro e w' ⟨v, rfl, hs, ho, hk3⟩
  refine ⟨_, ix, _, X, rfl, by rw [isSome_map]; exact ans_plain _ _ _ _ _, hs, mapK_put _ _ _ _, rfl, hk3, fun _ hg => .inl hg, fun p hp => ?_⟩
  rcases mem_putK hp with rfl | hp
  · exact .inr ho
  · exact .inl hp
def idxT (id : Int) (I : List (Int × List Int)) : Nat := match I with
  | [] => 0
  | x :: l => if x.1 = id then 0 else idxT id l + 1
theorem posI_idxT (id : Int) : ∀ (X : List Ix), posI id X = idxT id (X.map xi)
  | [] => rfl
  | x :: X => by
    have := posI_idxT id X
    simp only [posI, List.map_cons, idxT, xi, this]
def shownI (id : Int) (I : List (Int × List Int)) (M : Kv (List TVal)) : List (List UInt8) :=
  match I[idxT id I]? with
  | some x => (entsOf id x.2 M).mergeSort leB
  | none => []
theorem shownT_I (id : Int) (X : List Ix) (M : Kv (List TVal)) : shownT id X M = shownI id (X.map xi) M := by
  unfold shownT shownI
  rw [← posI_idxT, List.getElem?_map]
  cases X[posI id X]? <;> rfl
def queryA (id : Int) (I : List (Int × List Int)) (low high : List TVal) (lim : Nat) (M : Kv (List TVal)) : Ans :=
  if idxT id I < I.length then ⟨0, false, [], rowsT M (((shownI id I M).filterMap (hitK low high)).take lim), 0⟩ else ⟨7, false, [], [], 0⟩
theorem query_do (h : Store w B sb mb ix E X d) (id : Int) (lv hv : Value) (low high : List TVal) (lim : Nat) (C : Nat) (h1 : IsVals w C lv low) (h2 : IsVals w C hv high) (hC : C ≤ w.heap.size) (hE : E.length ≤ 1000) (hlim : lim ≤ 64) :
    Calls Tryz.prog 43 #[.pointer (some ⟨sb, 0, none⟩), .int .i64 id, lv, hv, .int .i64 (lim : Int)] w (DoPost B sb mb ix E (mapK (·.2) E) (X.map xi) d (queryA id (X.map xi) low high lim (mapK (·.2) E)) w) := by
  refine (query_any h id lv hv low high lim C h1 h2 hC hE hlim).mono ?_
  unfold QueryPost queryA
  rw [← posI_idxT, List.length_map]
  intro e w'
  by_cases hp : posI id X < X.length
  · simp only [if_pos hp]
    rintro ⟨v, rfl, hR, hb⟩
    rw [queryT, shownT_I] at hR
    exact do_same h ⟨_, _, rfl, World.ownsRow_nil _ _ _ _, hR.base (by omega)⟩ hb
  · simp only [if_neg hp]
    rintro ⟨rfl, hb⟩
    exact do_same h (ans_plain _ _ _ _ _) hb
theorem declare_do (h : Store w B sb mb ix E X d) (r : Value) (l : List Int) (C : Nat) (hr : IsInts w C r l) (hC : C ≤ w.heap.size) (hne : ∀ a n c, r = .slice (some a) n c → a.block ≠ sb) (hl : idxErr 1 l = 0) (hd : d < 6) (hX : X.length ≤ 6) :
    Calls Tryz.prog 44 #[.pointer (some ⟨sb, 0, none⟩), r] w (DoPost B sb mb ix E (mapK (·.2) E) (X.map xi ++ [((d : Int) + 1, l)]) (d + 1) ⟨0, false, [], [], (d : Int) + 1⟩ w) := by
  refine (declare_any h r l C hr hC hne hl hd hX).mono ?_
  rintro e w' ⟨ix', fv, rfl, hs, hk3, hx⟩
  exact ⟨_, ix', E, _, rfl, ans_plain _ _ _ _ _, hs, rfl, by rw [List.map_append]; rfl, hk3, hx, fun p hp => .inl hp⟩
end

theorem isVals_nil (w : World) (B : Nat) : IsVals w B (.slice none 0 0) [] := ⟨none, 0, 0, rfl, Nat.le_refl _, by simp [maxLen], HasVals.nil _ _ _, by simp⟩
theorem isInts_nil (w : World) (B : Nat) : IsInts w B (.slice none 0 0) [] := ⟨none, 0, 0, rfl, Nat.le_refl _, by simp [maxLen], ⟨rfl, Has.nil _ _ _⟩, by simp⟩
def oneRec : List TVal := [⟨1, 1, ⟨#[]⟩⟩]
theorem one_rowErr : rowErr oneRec = 0 := rowErr_ok.2 ⟨by decide, fun v hv => by
  simp only [oneRec, List.mem_singleton] at hv
  subst hv
  exact (goodV_iff _).2 (.inr (.inl ⟨rfl, rfl⟩))⟩
theorem one_good : GoodRec oneRec := ⟨by unfold recErr; rw [if_neg (by decide)]; exact one_rowErr, fun u hu => by
  simp only [oneRec, List.mem_singleton] at hu
  subst hu
  unfold InI64
  decide⟩
theorem one_show : showT 1 [0] oneRec = some oneRec := by
  unfold showT
  rw [if_pos ⟨by decide, one_good.1⟩]
  rfl
theorem one_lies : liesB oneRec [] [] = true := by
  have h : rowErr ([] : List TVal) = 0 := by decide
  unfold liesB
  rw [decide_eq_true (⟨one_rowErr, h, h⟩ : rowErr oneRec = 0 ∧ rowErr ([] : List TVal) = 0 ∧ rowErr ([] : List TVal) = 0)]
  decide
theorem awake_rows : queryA 1 ([] ++ [(((0 : Nat) : Int) + 1, [0])]) [] [] 5 (putK [107] oneRec []) = ⟨0, false, [], [([107], oneRec)], 0⟩ := by
  unfold queryA
  rw [if_pos (by decide)]
  have e : shownI 1 ([] ++ [(((0 : Nat) : Int) + 1, [0])]) (putK [107] oneRec []) = [entryT 1 oneRec [107]] := by
    unfold shownI
    show ((entsOf 1 [0] (putK [107] oneRec [])).mergeSort leB) = _
    have h : entsOf 1 [0] (putK [107] oneRec []) = [entryT 1 oneRec [107]] := by
      show (([([107], oneRec)] : Kv (List TVal)).filterMap fun p => entE 1 [0] p.1 p.2) = _
      rw [List.filterMap_cons]
      simp only [entE, one_show, Option.map_some, List.filterMap_nil]
    rw [h]
    exact List.mergeSort_singleton _
  rw [e]
  have h : [entryT 1 oneRec [107]].filterMap (hitK [] []) = [[107]] := by
    obtain ⟨h1, h2⟩ := show_entry (k := [107]) one_good one_show (by decide)
    rw [List.filterMap_cons, hitK_entry h1 h2, one_lies]
    rfl
  rw [h]
  rfl

theorem awake_check1 : checkT ⟨1, ⟨#[107]⟩, ⟨#[]⟩, oneRec, [], 0, [], [], [], 0, 0, 0⟩ = 0 := by
  show firstN [keyE ⟨#[107]⟩, recErr oneRec] = 0
  rw [one_good.1]
  rfl
theorem awake_check7 : checkT ⟨7, ⟨#[]⟩, ⟨#[]⟩, [], [], 0, [0], [], [], 0, 0, 0⟩ = 0 := by decide
theorem awake_check6 : checkT ⟨6, ⟨#[]⟩, ⟨#[]⟩, [], [], 1, [], [], [], 5, 0, 0⟩ = 0 := by decide

theorem do_query1 {B sb mb d : Nat} {ix : Value} {E : Kv (Value × List TVal)} {X : List Ix} {w : World} (h : Store w B sb mb ix E X d) (hE : E.length ≤ 1000) (hM : mapK (·.2) E = putK [107] oneRec []) (hI : X.map xi = [] ++ [(((0 : Nat) : Int) + 1, [0])]) :
    Calls Tryz.prog 17 #[.pointer (some ⟨sb, 0, none⟩), .agg #[.int .i64 6, .string ⟨#[]⟩, .string ⟨#[]⟩, .slice none 0 0, .slice none 0 0, .int .i64 1, .slice none 0 0, .slice none 0 0, .slice none 0 0, .int .i64 5, .int .i64 0, .int .i64 0]] w
      (DoPost B sb mb ix E (mapK (·.2) E) (X.map xi) d ⟨0, false, [], [([107], oneRec)], 0⟩ w) := by
  refine do_k6 h w.heap.size (Nat.le_refl _) ⟨#[]⟩ ⟨#[]⟩ [] [] [] [] 1 5 0 0 [] none none none none none 0 0 0 0 0 0 0 0 0 0
    ⟨_, _, _, _, _, rfl, isVals_nil _ _, isVals_nil _ _, isInts_nil _ _, isVals_nil _ _, isVals_nil _ _⟩ awake_check6 (fun wx hb => ?_)
  have hq := query_do (h.below hb) 1 (.slice none 0 0) (.slice none 0 0) [] [] 5 0 (isVals_nil _ _) (isVals_nil _ _) (Nat.zero_le _) hE (by decide)
  have e : queryA 1 (X.map xi) [] [] 5 (mapK (·.2) E) = ⟨0, false, [], [([107], oneRec)], 0⟩ := by rw [hM, hI]; exact awake_rows
  rw [e] at hq
  exact hq

set_option maxRecDepth 100000 in
set_option maxHeartbeats 6400000 in
theorem awake_any (w : World) : Calls Tryz.prog 9 #[] w fun e w' => e = .returned (.bool true) ∧ Below w.heap.size w w' := by
  go_enter Tryz.func9, Tryz.ntmps9
  go_wp2_with fail
  refine (new_any w w.heap.size (Nat.le_refl _)).mono ?_
  rintro e w1 ⟨rfl, hs1, hb1⟩
  obtain ⟨w2, hw2⟩ : ∃ w2, w1.alloc (.cells #[.int .i64 1, .int .i64 1, .string ⟨#[]⟩] 67) = w2 := ⟨_, rfl⟩
  have hb2 : Below w1.heap.size w1 w2 := hw2 ▸ below_alloc _ _
  have H2 := Lib.hid (hs1.below hb2)
  have Hb2 := Lib.hid (Below.then hb1 hb2)
  have hone : IsVals w2 w2.heap.size (.slice (some ⟨w1.heap.size, 0, none⟩) 1 1) oneRec :=
    ⟨_, 1, 1, rfl, Nat.le_refl _, by simp [maxLen], ⟨rfl, by rw [← hw2]; exact Has.more (vals_lit w1 1 1 ⟨#[]⟩) (by simp)⟩, one_good.2⟩
  have Hone := Lib.hid hone
  have hdo := do_k1 H2.out w2.heap.size (Nat.le_refl _) ⟨#[107]⟩ ⟨#[]⟩ oneRec [] [] [] 0 0 0 0 [] (some ⟨w1.heap.size, 0, none⟩) none none none none 1 1 0 0 0 0 0 0 0 0
    ⟨_, _, _, _, _, rfl, hone, isVals_nil _ _, isInts_nil _ _, isVals_nil _ _, isVals_nil _ _⟩ awake_check1
    (fun wx hb => put_do (H2.out.below hb) ⟨#[107]⟩ _ oneRec w2.heap.size (Hone.out.belowOf hb (Nat.le_refl _)) hb.size one_good (by decide) (by simp))
  have Hdo := Lib.hid hdo
  clear hs1 hb1 hb2 hone hdo
  have Hsb := Lib.hid (show w.heap.size + 1 < w2.heap.size from H2.out.lt.1)
  go_wp2_with fail
  refine Hdo.out.mono ?_
  rintro e w3 ⟨v, ix', E', X', rfl, ⟨rv, sv, rfl, hr, hR⟩, hS, hM, hI, hK, hx, -⟩
  obtain ⟨Ar, cr, rfl, -⟩ := own_sliceN hr
  obtain ⟨As, cs, rfl⟩ := hR.slice
  have hth : (getK ((⟨#[107]⟩ : ByteArray).data.toList) (mapK (·.2) ([] : Kv (Value × List TVal)))).isSome = false := rfl
  simp only [replyV, hth]
  have HK3 := Lib.hid hK
  obtain ⟨wA, hwA⟩ : ∃ wA, w3.alloc (.cells #[.int .i64 0, .bool false, .slice Ar 0 cr, .slice As 0 cs, .int .i64 0] 40) = wA := ⟨_, rfl⟩
  have hbxA : Box wA w3.heap.size 40 #[.int .i64 0, .bool false, .slice Ar 0 cr, .slice As 0 cs, .int .i64 0] := hwA ▸ Box.made _ _ _
  have hsA : wA.heap.size = w3.heap.size + 1 := by rw [← hwA]; simp
  have hbA : Below w3.heap.size w3 wA := hwA ▸ below_alloc _ _
  obtain ⟨w4, hw4⟩ : ∃ w4, wA.alloc (.cells #[.int .i64 0] 3) = w4 := ⟨_, rfl⟩
  have hb4 : Below wA.heap.size wA w4 := hw4 ▸ below_alloc _ _
  have H4 := Lib.hid ((hS.below hbA).below hb4)
  have HbxA := Lib.hid (hbxA.below hb4 hbxA.lt)
  have Hb4 := Lib.hid (Below.then hbA hb4)
  have HA3 : Hid (w3.heap.size < wA.heap.size ∧ w.heap.size + 1 < w3.heap.size) := Lib.hid ⟨hbxA.lt, hS.lt.1⟩
  have hX' : X' = [] := by
    have h := congrArg List.length hI
    simp at h
    exact h
  subst hX'
  have hE' : E'.length = 1 := by
    have h := congrArg List.length hM
    simpa [mapK, putK] using h
  have hint : IsInts w4 w4.heap.size (.slice (some ⟨w3.heap.size + 1, 0, none⟩) 1 1) [0] :=
    ⟨_, 1, 1, rfl, Nat.le_refl _, by simp [maxLen], by rw [← hw4]; exact ⟨rfl, Has.more (ints_lit wA #[.int .i64 0] [0] 3 rfl _ hsA).2 (by simp [hsA])⟩, by simp [InI64]⟩
  have Hint := Lib.hid hint
  have hdo7 := do_k7 H4.out w4.heap.size (Nat.le_refl _) ⟨#[]⟩ ⟨#[]⟩ [] [] [] [] 0 0 0 0 [0] none none (some ⟨w3.heap.size + 1, 0, none⟩) none none 0 0 0 0 1 1 0 0 0 0
    ⟨_, _, _, _, _, rfl, isVals_nil _ _, isVals_nil _ _, hint, isVals_nil _ _, isVals_nil _ _⟩ awake_check7
    (fun wx hb => declare_do (H4.out.below hb) _ [0] w4.heap.size (Hint.out.belowOf hb (Nat.le_refl _)) hb.size (fun a n c e => by
      injection e with e1 e2 e3
      injection e1 with e1
      have h1 := HA3.out
      show a.block ≠ _
      rw [← e1]
      show w3.heap.size + 1 ≠ _
      omega) (by decide) (by omega) (by simp))
  have Hdo7 := Lib.hid hdo7
  have HwA := Lib.hid hwA
  have Hw4 := Lib.hid hw4
  clear hwA hw4
  clear hsA
  have HM := Lib.hid hM
  have HE' := Lib.hid hE'
  clear hdo7 hint hb4 hbA hbxA hS hR hr hM hI hx hE' hK
  go_wp2_with fail
  rw [HwA.out, Hw4.out]
  refine Hdo7.out.mono ?_
  rintro e w5 ⟨v, ix2, E2, X2, rfl, ⟨rv, sv, rfl, hr, hR⟩, hS, hM, hI, hK, hx, -⟩
  obtain ⟨Ar2, cr2, rfl, -⟩ := own_sliceN hr
  obtain ⟨As2, cs2, rfl⟩ := hR.slice
  simp only [replyV]
  have hbxA5 : Box w5 w3.heap.size 40 _ := (hK.block _ HbxA.out.lt (by have := HA3.out; omega) (by have := HA3.out; have := H4.out.lt.2; omega) (fun e => by
    obtain ⟨cur, hc⟩ := own_type H4.out.irow e.symm
    have h2 := HbxA.out
    unfold Box at h2
    rw [h2] at hc
    injection hc with hc; injection hc with _ hc; exact absurd hc (by decide))).trans HbxA.out
  obtain ⟨w6, hw6⟩ : ∃ w6, w5.alloc (.cells #[.int .i64 0, .bool false, .slice Ar2 0 cr2, .slice As2 0 cs2, .int .i64 1] 40) = w6 := ⟨_, rfl⟩
  have hb6 : Below w5.heap.size w5 w6 := hw6 ▸ below_alloc _ _
  have hbxB : Box w6 w5.heap.size 40 #[.int .i64 0, .bool false, .slice Ar2 0 cr2, .slice As2 0 cs2, .int .i64 1] := hw6 ▸ Box.made _ _ _
  have H6 := Lib.hid (hS.below hb6)
  have HbxB := Lib.hid hbxB
  have HbxA6 := Lib.hid (hbxA5.below hb6 hbxA5.lt)
  have Hw6 := Lib.hid hw6
  have HM2 := Lib.hid (hM.trans HM.out)
  have HI2 := Lib.hid hI
  have Hb6 := Lib.hid hb6
  have HB6 : Hid (w5.heap.size < w6.heap.size ∧ w4.heap.size ≤ w5.heap.size) := Lib.hid ⟨hbxB.lt, hK.size⟩
  have hE2 : E2.length = 1 := by
    have h := congrArg List.length HM2.out
    rw [mapK, List.length_map] at h
    exact h
  have HK7 := Lib.hid hK
  have Hdo6 := Lib.hid (do_query1 H6.out (by omega) HM2.out HI2.out)
  clear hw6 hS hM hI hx hR hr hbxB hbxA5 hb6 hE2 hK
  go_wp2_with fail
  try rw [Hw6.out]
  refine Hdo6.out.mono ?_
  rintro e w7 ⟨v, ix3, E3, X3, rfl, ⟨rv, sv, rfl, hr, rs, ⟨hrow, -⟩, hmap⟩, -, -, -, hK, -, -⟩
  obtain ⟨Ar3, cr3, rfl, -⟩ := own_sliceN hr
  have hrs : rs.length = 1 := by
    have h := congrArg List.length hmap
    rw [mapK, List.length_map] at h
    exact h
  obtain ⟨p, rfl⟩ := List.length_eq_one_iff.1 hrs
  have hp : p.1 = [107] := by
    simp only [mapK, List.map_cons, List.map_nil, List.cons.injEq, Prod.mk.injEq] at hmap
    exact hmap.1.1
  obtain ⟨As3, cs3, rfl, -, -, hcells⟩ := own_sliceN hrow
  obtain ⟨a, rfl, hab, hc0⟩ := hcells.cell (k := 0) (by simp)
  have ha0 : a.add 0 = a := by unfold Addr.add; simp
  rw [ha0] at hc0
  have hc : w7.cell? a = some (.string ⟨#[107]⟩) := by rw [hc0]; simp [rowCells, hp, encStr]
  have hkA : ∀ i, i < w6.heap.size → i ≠ w.heap.size + 1 → i ≠ w.heap.size → (∃ cs, Box w6 i 40 cs) → w7.heap[i]? = w6.heap[i]? := fun i h1 h2 h3 ⟨cs, hb⟩ => hK.block i h1 h2 h3 (fun e => by
    obtain ⟨cur, hc⟩ := own_type H6.out.irow e.symm
    unfold Box at hb
    rw [hb] at hc
    injection hc with hc; injection hc with _ hc; exact absurd hc (by decide))
  have bA7 := (show Box w7 _ _ _ from (hkA _ HbxA6.out.lt (by have := HA3.out; omega) (by have := HA3.out; omega) ⟨_, HbxA6.out⟩).trans HbxA6.out)
  have bB7 := (show Box w7 _ _ _ from (hkA _ HbxB.out.lt (by have := HA3.out; have := HB6.out; have := Hb4.out.size; omega) (by have := HA3.out; have := HB6.out; have := Hb4.out.size; omega) ⟨_, HbxB.out⟩).trans HbxB.out)
  obtain ⟨w8, hw8⟩ : ∃ w8, w7.alloc (.cells #[.int .i64 0, .bool false, .slice Ar3 0 cr3, .slice (some a) 1 cs3, .int .i64 0] 40) = w8 := ⟨_, rfl⟩
  have hb8 : Below w7.heap.size w7 w8 := hw8 ▸ below_alloc _ _
  have bC8 : Box w8 w7.heap.size 40 #[.int .i64 0, .bool false, .slice Ar3 0 cr3, .slice (some a) 1 cs3, .int .i64 0] := hw8 ▸ Box.made _ _ _
  have x1 := (bA7.below hb8 bA7.lt).cell 1
  have x2 := (bB7.below hb8 bB7.lt).cell 4
  have x3 := bC8.cell 3
  have x4 := keepcell hb8 hc
  have Hb8 : Hid (Below w.heap.size w w8) := Lib.hid ((((Hb2.out.trans ((HK3.out.below H2.out (by have := H2.out.lt.2; omega)).mono (Nat.le_refl _))).trans (Hb4.out.mono (by have := HA3.out; omega))).trans (((HK7.out.below H4.out (by have := H4.out.lt.2; omega))).mono (Nat.le_refl _))).trans (Hb6.out.mono (by have := HA3.out; have := HB6.out; have := Hb4.out.size; omega)) |>.trans ((hK.below H6.out (by have := H6.out.lt.2; omega)).mono (Nat.le_refl _)) |>.trans (hb8.mono (by have := hK.size; have := HA3.out; have := HB6.out; have := Hb4.out.size; omega)))
  clear hc0 hcells hrow hr hmap hrs hkA bA7 bB7 bC8 hb8 hK hab hc
  subst hw8
  simp only [replyV, List.length_nil, List.length_singleton]
  go_wp2
  go_ret
  exact ⟨rfl, Hb8.out⟩
end Go.Proofs.YtfaenejcgmnmdaaGreat

namespace Go.Proofs.YtfaenejcgmnmdaaGreat
open Go.RowKit
open Go.Lib (strCells compareBytes)

def SomeBool (w : World) (e : Ending) (w' : World) : Prop := ∃ b : Bool, e = .returned (.bool b) ∧ Below w.heap.size w w'
theorem light_some (v : Value) (l : List TVal) (B : Nat) (w : World) (h : IsVals w B v l) (hs : ∀ u ∈ l, u.s.size ≤ maxLen) : Calls Tryz.prog 27 #[v, .int .i64 300] w fun e w' => ∃ b : Bool, e = .returned (.bool b) ∧ w = w' := by
  obtain ⟨A, n, c, rfl, h1, h2, h3, -⟩ := h
  refine (light_any A n c B 300 l w h3 (Nat.le_trans h1 h2) (by omega) hs).mono ?_
  rintro e w' ⟨b, rfl, -, rfl⟩
  exact ⟨b, rfl, rfl⟩
set_option maxRecDepth 100000 in
set_option maxHeartbeats 3200000 in
theorem lightOp_any (v : Value) (o : TOp) (B : Nat) (w : World) (hB : B ≤ w.heap.size) (ho : OpIs w B v o) (hsh : OpShort o) : Calls Tryz.prog 10 #[v] w (SomeBool w) := by
  obtain ⟨rv, ov, fv, lv, hv, rfl, h1, h2, h3, h4, h5⟩ := ho
  obtain ⟨s1, s2, s3, s4, -⟩ := hsh
  have K1 := Lib.hid (fun wx (hb : Below w.heap.size w wx) => light_some rv o.rc B wx (h1.belowOf hb hB) s1)
  have K2 := Lib.hid (fun wx (hb : Below w.heap.size w wx) => light_some ov o.old B wx (h2.belowOf hb hB) s2)
  have K3 := Lib.hid (fun wx (hb : Below w.heap.size w wx) => light_some lv o.low B wx (h4.belowOf hb hB) s3)
  have K4 := Lib.hid (fun wx (hb : Below w.heap.size w wx) => light_some hv o.high B wx (h5.belowOf hb hB) s4)
  obtain ⟨A1, n1, c1, rfl, -⟩ := h1
  obtain ⟨A2, n2, c2, rfl, -⟩ := h2
  obtain ⟨A3, n3, c3, rfl, -⟩ := h3
  obtain ⟨A4, n4, c4, rfl, -⟩ := h4
  obtain ⟨A5, n5, c5, rfl, -⟩ := h5
  clear s1 s2 s3 s4
  obtain ⟨k, key, to, rc, old, id, fs, low, high, lim, sp, nd⟩ := o
  unfold opCells
  by_cases hk : key.size ≤ 300
  · by_cases ht : to.size ≤ 300
    · by_cases hf : n3 ≤ 300
      · go_enter Tryz.func10, Tryz.ntmps10
        go_wp2_with fail
        refine (K1.out _ (below_alloc _ _)).mono ?_
        rintro e w1 ⟨b1, rfl, rfl⟩
        cases b1 with
        | false => go_wp2; go_ret; exact ⟨false, rfl, below_alloc _ _⟩
        | true =>
          go_wp2_with fail
          refine (K2.out _ (below_alloc _ _)).mono ?_
          rintro e w1 ⟨b1, rfl, rfl⟩
          cases b1 with
          | false => go_wp2; go_ret; exact ⟨false, rfl, below_alloc _ _⟩
          | true =>
            go_wp2_with fail
            refine (K3.out _ (below_alloc _ _)).mono ?_
            rintro e w1 ⟨b1, rfl, rfl⟩
            cases b1 with
            | false => go_wp2; go_ret; exact ⟨false, rfl, below_alloc _ _⟩
            | true =>
              go_wp2_with fail
              refine (K4.out _ (below_alloc _ _)).mono ?_
              rintro e w1 ⟨b1, rfl, rfl⟩
              go_wp2
              go_ret
              exact ⟨b1, rfl, below_alloc _ _⟩
      · go_enter Tryz.func10, Tryz.ntmps10
        go_wp2
        go_ret
        exact ⟨false, rfl, below_alloc _ _⟩
    · go_enter Tryz.func10, Tryz.ntmps10
      go_wp2
      go_ret
      exact ⟨false, rfl, below_alloc _ _⟩
  · go_enter Tryz.func10, Tryz.ntmps10
    go_wp2
    go_ret
    exact ⟨false, rfl, below_alloc _ _⟩
end Go.Proofs.YtfaenejcgmnmdaaGreat

namespace Go.Proofs.YtfaenejcgmnmdaaGreat
open Go.RowKit
open Go.Lib (strCells compareBytes)

theorem box12 {w : World} {g : Nat} {t : TypeId} {x0 x1 x2 x3 x4 x5 x6 x7 x8 x9 x10 x11 : Value} (h : Box w g t #[x0, x1, x2, x3, x4, x5, x6, x7, x8, x9, x10, x11]) : w.cell? ⟨g, 0, none⟩ = some x0 ∧ w.cell? ⟨g, 1, none⟩ = some x1 ∧ w.cell? ⟨g, 2, none⟩ = some x2 ∧ w.cell? ⟨g, 3, none⟩ = some x3 ∧ w.cell? ⟨g, 4, none⟩ = some x4 ∧ w.cell? ⟨g, 5, none⟩ = some x5 ∧ w.cell? ⟨g, 6, none⟩ = some x6 ∧ w.cell? ⟨g, 7, none⟩ = some x7 ∧ w.cell? ⟨g, 8, none⟩ = some x8 ∧ w.cell? ⟨g, 9, none⟩ = some x9 ∧ w.cell? ⟨g, 10, none⟩ = some x10 ∧ w.cell? ⟨g, 11, none⟩ = some x11 :=
  ⟨h.cell 0, h.cell 1, h.cell 2, h.cell 3, h.cell 4, h.cell 5, h.cell 6, h.cell 7, h.cell 8, h.cell 9, h.cell 10, h.cell 11⟩
set_option maxRecDepth 100000 in
set_option maxHeartbeats 3200000 in
theorem plainChecks_walk (v : Value) (o : TOp) (w : World) (ho : OpIs w w.heap.size v o) (hsh : OpShort o) : Calls Tryz.prog 3 #[v] w fun e w' => e = .returned (.bool true) ∧ Below w.heap.size w w' := by
  have Hl := Lib.hid (fun wx (hb : Below w.heap.size w wx) => lightOp_any v o _ wx hb.size (ho.belowOf hb (Nat.le_refl _)) hsh)
  have Hc := Lib.hid (fun wx (hb : Below w.heap.size w wx) => plainCheck_any v o _ wx hb.size (ho.belowOf hb (Nat.le_refl _)))
  have Hr := Lib.hid (fun wx (hb : Below w.heap.size w wx) => refCheck_any v o _ wx hb.size (ho.belowOf hb (Nat.le_refl _)))
  obtain ⟨rv, ov, fv, lv, hv, rfl, h1, h2, h3, h4, h5⟩ := ho
  obtain ⟨A1, n1, c1, rfl, -⟩ := h1
  obtain ⟨A2, n2, c2, rfl, -⟩ := h2
  obtain ⟨A3, n3, c3, rfl, -⟩ := h3
  obtain ⟨A4, n4, c4, rfl, -⟩ := h4
  obtain ⟨A5, n5, c5, rfl, -⟩ := h5
  clear hsh
  unfold opCells at *
  generalize checkT o = ct at Hc Hr
  obtain ⟨k, key, to, rc, old, id, fs, low, high, lim, sp, nd⟩ := o
  simp only at *
  have Hbx : Hid (∀ wx, Below w.heap.size w wx → Below (w.heap.size + 1) (w.alloc (.cells #[.int .i64 k, .string key, .string to, .slice A1 n1 c1, .slice A2 n2 c2, .int .i64 id, .slice A3 n3 c3, .slice A4 n4 c4, .slice A5 n5 c5, .int .i64 lim, .int .i64 sp, .int .i64 nd] 26)) wx → wx.cell? ⟨w.heap.size, 0, none⟩ = some (.int .i64 k) ∧ wx.cell? ⟨w.heap.size, 1, none⟩ = some (.string key) ∧ wx.cell? ⟨w.heap.size, 2, none⟩ = some (.string to) ∧ wx.cell? ⟨w.heap.size, 3, none⟩ = some (.slice A1 n1 c1) ∧ wx.cell? ⟨w.heap.size, 4, none⟩ = some (.slice A2 n2 c2) ∧ wx.cell? ⟨w.heap.size, 5, none⟩ = some (.int .i64 id) ∧ wx.cell? ⟨w.heap.size, 6, none⟩ = some (.slice A3 n3 c3) ∧ wx.cell? ⟨w.heap.size, 7, none⟩ = some (.slice A4 n4 c4) ∧ wx.cell? ⟨w.heap.size, 8, none⟩ = some (.slice A5 n5 c5) ∧ wx.cell? ⟨w.heap.size, 9, none⟩ = some (.int .i64 lim) ∧ wx.cell? ⟨w.heap.size, 10, none⟩ = some (.int .i64 sp) ∧ wx.cell? ⟨w.heap.size, 11, none⟩ = some (.int .i64 nd)) := Lib.hid (fun wx _ hb => box12 ((Box.made w 26 _).below hb (by omega)))
  go_enter Tryz.func3, Tryz.ntmps3
  go_wp2_with fail
  refine (awake_any _).mono ?_
  rintro e w1 ⟨rfl, hb1⟩
  have hb01 := Below.then (below_alloc _ _) hb1
  have hb1' : Below (w.heap.size + 1) (w.alloc (.cells #[.int .i64 k, .string key, .string to, .slice A1 n1 c1, .slice A2 n2 c2, .int .i64 id, .slice A3 n3 c3, .slice A4 n4 c4, .slice A5 n5 c5, .int .i64 lim, .int .i64 sp, .int .i64 nd] 26)) w1 := by simpa using hb1
  obtain ⟨q0, q1, q2, q3, q4, q5, q6, q7, q8, q9, q10, q11⟩ := Hbx.out w1 hb01 hb1'
  have Hb01 := Lib.hid hb01
  have Hb1 := Lib.hid hb1'
  clear hb1 hb01 hb1'
  go_wp2_with fail
  refine (Hl.out _ Hb01.out).mono ?_
  rintro e w2 ⟨b, rfl, hb2⟩
  have Hb02 := Lib.hid (Below.then Hb01.out hb2)
  have Hb2 := Lib.hid (Hb1.out.trans (hb2.mono (by have := Hb1.out.size; simp at this; omega)))
  clear hb2 q0 q1 q2 q3 q4 q5 q6 q7 q8 q9 q10 q11
  cases b with
  | false => go_wp2; go_ret; exact ⟨rfl, Hb02.out⟩
  | true =>
    have hs2 : w.heap.size + 1 ≤ w2.heap.size := by have := Hb2.out.size; simp at this; omega
    have hS := Hbx.out w2 Hb02.out Hb2.out
    go_wp2
    go_region_held3 (fun wx => wx.cell? ⟨w.heap.size, 0, none⟩ = some (.int .i64 k) ∧ wx.cell? ⟨w.heap.size, 1, none⟩ = some (.string key) ∧ wx.cell? ⟨w.heap.size, 2, none⟩ = some (.string to) ∧ wx.cell? ⟨w.heap.size, 3, none⟩ = some (.slice A1 n1 c1) ∧ wx.cell? ⟨w.heap.size, 4, none⟩ = some (.slice A2 n2 c2) ∧ wx.cell? ⟨w.heap.size, 5, none⟩ = some (.int .i64 id) ∧ wx.cell? ⟨w.heap.size, 6, none⟩ = some (.slice A3 n3 c3) ∧ wx.cell? ⟨w.heap.size, 7, none⟩ = some (.slice A4 n4 c4) ∧ wx.cell? ⟨w.heap.size, 8, none⟩ = some (.slice A5 n5 c5) ∧ wx.cell? ⟨w.heap.size, 9, none⟩ = some (.int .i64 lim) ∧ wx.cell? ⟨w.heap.size, 10, none⟩ = some (.int .i64 sp) ∧ wx.cell? ⟨w.heap.size, 11, none⟩ = some (.int .i64 nd))
      (first | assumption | exact Hbx.out _ Hb02.out.drew Hb2.out.drew | exact Hbx.out _ Hb03.out Hb3.out | exact Hbx.out _ Hb04.out Hb4.out)
      (first
        | (go_at_call 11; refine (Hc.out _ Hb02.out.drew).mono ?_; rintro e w3 ⟨rfl, hb3⟩; have Hb03 := Lib.hid (Below.then (Hb02.out.drew) hb3); have Hb3 := Lib.hid ((Hb2.out.drew).trans (hb3.mono (by simpa using hs2))); clear hb3)
        | (go_at_call 12; refine (Hr.out _ Hb03.out).mono ?_; rintro e w4 ⟨rfl, hb4⟩; have Hb04 := Lib.hid (Below.then Hb03.out hb4); have Hb4 := Lib.hid (Hb3.out.trans (hb4.mono (by have := Hb3.out.size; simp at this; omega))); clear hb4))
    all_goals go_wp2
    all_goals go_ret
    all_goals exact ⟨by simp, Hb04.out⟩

namespace lawPlainChecks
open Go.ChangeShapes Go.WideShapes Go.ChangeAt

theorem own : ownKnob Tryz.prog.godebug = none := by kernel_rfl
theorem kids : Kids Tryz.prog (· < Tryz.prog.types.size) := kids_rows (by kernel_rfl) (by kernel_rfl)
theorem full : ∀ t e, t < Tryz.prog.types.size → Tryz.prog.underlying t = some (.slice e) → 0 < Tryz.prog.cellsOf e := slices_full_of Tryz.prog (by kernel_rfl)

set_option maxRecDepth 100000 in
theorem lifted (os : Os) (started : os.Started) (H : Type) (enc : TypeId × Value → H) :
    ReturnsInHanded {} Tryz.checked os 3 .any (Rows.plainChecksSpec.pre6 enc Tryz.prog Tryz.f3 Rows.plainChecksRow.domain false) (Rows.plainChecksSpec.post enc Tryz.prog Tryz.f3 false true false false) := by
  refine returnsInHanded_of_change (C := Tryz.checked) own started (by kernel_rfl) Tryz.func3
    (ChangeSpec.witness6 (enc := enc) (C := Tryz.checked) false ⟨#[], #[.agg #[.int .i64 0, .string ⟨#[]⟩, .string ⟨#[]⟩, .slice none 0 0, .slice none 0 0, .int .i64 0, .slice none 0 0, .slice none 0 0, .slice none 0 0, .int .i64 0, .int .i64 0, .int .i64 0]], []⟩ 8 (by kernel_rfl) (by kernel_rfl) (by kernel_rfl) (by kernel_rfl)) ?_
  intro W base args ds gs before hval0 hW _ _
  have hval : ∀ (j : Nat) t v, Tryz.f3.params[j]? = some t → args[j]? = some v → Value.okWide Tryz.prog W .any base t v := hval0
  have hW' := hW
  obtain ⟨p, q, hA0, hV, rfl, _, _⟩ := hW
  obtain ⟨rfl, rfl⟩ := trodVars_none hV
  have hA : DataW.TrodAll enc Tryz.prog W 0 (fun _ => true) true Tryz.f3.params.toList args.toList ds p := hA0
  rw [Tryz.params3] at hA hval
  obtain ⟨v0, vs0, d0, ds0, p0, q0, hargs, rfl, rfl, h0, r0⟩ := trodAll_cons hA
  obtain ⟨rfl, rfl, rfl⟩ := trodAll_nil r0
  obtain rfl : args = #[v0] := by cases args; simp_all
  have hlt := hW'.lt
  obtain ⟨o0, ho0, hsh0⟩ := open_op (hval 0 26 v0 rfl rfl) h0 (fun x hx => hlt x (by simp [hx]))
  refine (plainChecks_walk v0 o0 W ho0 hsh0).mono fun e W' ⟨he, hbel⟩ => ?_
  subst he
  exact ⟨_, rfl, law_post kids full (of_decide_eq_true (by kernel_rfl)) Tryz.underlying4 rfl rfl rfl hW' hbel⟩

theorem proved : Rows.PlainChecksSaid :=
  OpenClaim.holds_of_wide 3 Tryz.f3 rfl rfl rfl rfl rfl rfl rfl ⟨rfl, rfl, rfl, rfl, rfl⟩ rfl rfl rfl rfl rfl (by kernel_rfl) Tryz.func3 (by kernel_rfl)
    (of_decide_eq_true (by kernel_rfl)) (by unfold Func.isWrapper; first | (rw [if_pos (by decide +kernel)]; kernel_rfl) | (rw [if_neg (by decide +kernel)]; exact ⟨rfl, rfl⟩))
    (fun os started H enc _ => lifted os started H enc)
end lawPlainChecks

end Go.Proofs.YtfaenejcgmnmdaaGreat

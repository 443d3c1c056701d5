/- Arguments that are a reply (a struct of five), or a row of acts of layer 17 (structs of three numbers and a reply), opened. -/
import Derived.Test.YtdfhnjocpfjagaaOnA
import Derived.Test.YtdfhnjocpfjagaaOpen
import Derived.Deep.Slices
import Derived.OpenShut
namespace Go.Proofs.Ytdfhnjocpfjagaa
open Go.ChangeShapes Go.WideShapes Go.ChangeAt Go.RowKit

instance : Inhabited TVal := ⟨⟨0, 0, ⟨#[]⟩⟩⟩
theorem vals_of_cells {w : World} {B n : Nat} {a : Addr} {f : Nat → TVal} (hb : 0 < n → a.block < B) (hc : ∀ i, i < n → w.cell? (a.add (i * 3)) = some (.int .i64 (f i).k) ∧ w.cell? (a.add (i * 3 + 1)) = some (.int .i64 (f i).n) ∧ w.cell? (a.add (i * 3 + 2)) = some (.string (f i).s)) :
    HasVals w B (some a) n ((List.range n).map f) := by
  refine ⟨by simp, by rw [valCells_len]; simp, fun k u hu => ⟨a, rfl, ?_, ?_⟩⟩
  · have := (List.getElem?_eq_some_iff.1 hu).1
    rw [valCells_len] at this
    simp at this
    exact hb (by omega)
  · have hk := (List.getElem?_eq_some_iff.1 hu).1
    rw [valCells_len] at hk
    simp at hk
    have hin : k / 3 < n := by omega
    have hgi : ((List.range n).map f)[k / 3]? = some (f (k / 3)) := by simp [hin]
    obtain ⟨c0, c1, c2⟩ := valCells_at _ _ _ hgi
    obtain ⟨d0, d1, d2⟩ := hc (k / 3) hin
    have hcase : k = k / 3 * 3 ∨ k = k / 3 * 3 + 1 ∨ k = k / 3 * 3 + 2 := by omega
    rcases hcase with e | e | e
    · rw [e, c0] at hu; rw [e, d0, ← hu]
    · rw [e, c1] at hu; rw [e, d1, ← hu]
    · rw [e, c2] at hu; rw [e, d2, ← hu]
/-- a reply that came in: its record's values -/
structure RpIn (w : World) (B : Nat) (r : Rp) (A : Option Addr) (rn : Nat) : Prop where
  vals : HasVals w B A rn r.rc
  len : rn ≤ maxLen
  num : ∀ v ∈ r.rc, InI64 v.n
  txt : ∀ v ∈ r.rc, v.s.size ≤ maxLen
theorem RpIn.belowOf {w w' : World} {B C rn : Nat} {r : Rp} {A : Option Addr} (h : RpIn w B r A rn) (hb : Below C w w') (hC : B ≤ C) : RpIn w' B r A rn := { h with vals := h.vals.belowOf hb hC }
structure ActO where
  who : Int
  c : Int
  n : Int
  r : Rp
  A : Option Addr
  rn : Nat
  d : Nat
  X : Option Addr
  m : Nat
  y : Nat
instance : Inhabited ActO := ⟨⟨0, 0, 0, Rp.zero, none, 0, 0, none, 0, 0⟩⟩
def ActO.cells (o : ActO) : List Value := [.int .i64 o.who, .int .i64 o.c, .int .i64 o.n, .int .i64 o.r.code, .bool o.r.there, .slice o.A o.rn o.d, .slice o.X o.m o.y, .int .i64 o.r.id]
structure ActOk (w : World) (B : Nat) (o : ActO) : Prop where
  rp : RpIn w B o.r o.A o.rn
  cw : (Lit.int .i64 o.c).wf = true
  nw : (Lit.int .i64 o.n).wf = true
  ww : (Lit.int .i64 o.who).wf = true
/-- n acts, from A on, in memory below block B -/
def HasOas (w : World) (B : Nat) (A : Option Addr) (n : Nat) (l : List ActO) : Prop :=
  l.length = n ∧ ∀ i o, l[i]? = some o → ∃ a : Addr, A = some a ∧ a.block < B ∧ (∀ j u, o.cells[j]? = some u → w.cell? ((a.add (i * 8)).add j) = some u) ∧ ActOk w B o
theorem HasOas.belowOf {w w' : World} {B C n : Nat} {A : Option Addr} {l : List ActO} (h : HasOas w B A n l) (hb : Below C w w') (hC : B ≤ C) : HasOas w' B A n l :=
  ⟨h.1, fun i o ho => by
    obtain ⟨a, e, h1, h2, h3⟩ := h.2 i o ho
    exact ⟨a, e, h1, fun j u hu => (hb.cell (by rw [addr_block, addr_block]; omega)).trans (h2 j u hu), { h3 with rp := h3.rp.belowOf hb hC }⟩⟩
theorem oa_step (a : Addr) (j : Nat) (hj : 0 < j) : a.add j = ⟨a.block, a.off + j, none⟩ := by
  unfold Addr.add
  rw [if_neg (by omega)]
theorem oa_zero (a : Addr) : a.add 0 = a := by unfold Addr.add; rfl
/-- act i, its cells spelled as the walk spells them -/
theorem HasOas.at_ {w : World} {B n : Nat} {A : Option Addr} {l : List ActO} (h : HasOas w B A n l) {i : Nat} (hi : i < n) : ∃ (a : Addr) (o : ActO), A = some a ∧ a.block < B ∧ l[i]? = some o ∧
    (w.cell? (a.add (i * 8)) = some (.int .i64 o.who) ∧ w.cell? ⟨(a.add (i * 8)).block, (a.add (i * 8)).off + 1, none⟩ = some (.int .i64 o.c) ∧ w.cell? ⟨(a.add (i * 8)).block, (a.add (i * 8)).off + 2, none⟩ = some (.int .i64 o.n) ∧ w.cell? ⟨(a.add (i * 8)).block, (a.add (i * 8)).off + 3, none⟩ = some (.int .i64 o.r.code) ∧
      w.cell? ⟨(a.add (i * 8)).block, (a.add (i * 8)).off + 3 + 1, none⟩ = some (.bool o.r.there) ∧ w.cell? ⟨(a.add (i * 8)).block, (a.add (i * 8)).off + 3 + 2, none⟩ = some (.slice o.A o.rn o.d) ∧ w.cell? ⟨(a.add (i * 8)).block, (a.add (i * 8)).off + 3 + 3, none⟩ = some (.slice o.X o.m o.y) ∧ w.cell? ⟨(a.add (i * 8)).block, (a.add (i * 8)).off + 3 + 4, none⟩ = some (.int .i64 o.r.id)) ∧ ActOk w B o := by
  have hil : i < l.length := by have := h.1; omega
  obtain ⟨a, e, h1, h2, h3⟩ := h.2 i l[i] (List.getElem?_eq_getElem hil)
  have k0 := h2 0 _ rfl
  rw [oa_zero] at k0
  have k1 := h2 1 _ rfl
  rw [oa_step _ 1 (by omega)] at k1
  have k2 := h2 2 _ rfl
  rw [oa_step _ 2 (by omega)] at k2
  have k3 := h2 3 _ rfl
  rw [oa_step _ 3 (by omega)] at k3
  have k4 := h2 4 _ rfl
  rw [oa_step _ 4 (by omega)] at k4
  have k5 := h2 5 _ rfl
  rw [oa_step _ 5 (by omega)] at k5
  have k6 := h2 6 _ rfl
  rw [oa_step _ 6 (by omega)] at k6
  have k7 := h2 7 _ rfl
  rw [oa_step _ 7 (by omega)] at k7
  exact ⟨a, _, e, h1, List.getElem?_eq_getElem hil, ⟨k0, k1, k2, k3, k4, k5, k6, k7⟩, h3⟩
section
variable {H : Type} {enc : TypeId × Value → H} {W : World}
theorem cl_int : Try.prog.cellsOf 3 = 1 := by kernel_rfl
theorem cl_string : Try.prog.cellsOf 9 = 1 := by kernel_rfl
theorem cl_err : Try.prog.cellsOf 24 = 1 := by kernel_rfl
theorem cl_bool : Try.prog.cellsOf 4 = 1 := by kernel_rfl
theorem cl_rec : Try.prog.cellsOf 79 = 1 := by kernel_rfl
theorem cl_rows : Try.prog.cellsOf 80 = 1 := by kernel_rfl
theorem cl_val : Try.prog.cellsOf 47 = 3 := by kernel_rfl
theorem cl_rep : Try.prog.cellsOf 82 = 5 := by kernel_rfl
theorem cl_oa : Try.prog.cellsOf 84 = 8 := by kernel_rfl
set_option maxRecDepth 100000 in
theorem rec_of {u : Value} {x : DataW H × List MemPlace} {fuel : Nat} (hf : DataW.trod enc Try.prog W 0 (fun _ => true) true fuel 79 [u] = some x) (hlt : ∀ y ∈ x.2, y.block < W.heap.size) :
    ∃ (A : Option Addr) (n c : Nat) (l : List TVal), u = .slice A n c ∧ n ≤ maxLen ∧ HasVals W W.heap.size A n l ∧ (∀ v ∈ l, InI64 v.n) ∧ ∀ v ∈ l, v.s.size ≤ maxLen := by
  rcases Go.Deep.open_slice Try.underlying79 hf with ⟨hcs, _⟩ | ⟨a, n, c, m, n', D, Pl, hcs, _, hle, hmax, hm, hx, hi⟩
  · simp at hcs
    subst hcs
    exact ⟨none, 0, 0, [], rfl, by simp [maxLen], HasVals.nil _ _ _, by simp, by simp⟩
  · simp at hcs
    subst hcs
    simp only [if_true] at hm
    have hm2 := hm.symm
    subst hm2
    have hone : ∀ i, i < n → ∃ u : TVal, (W.cell? (a.add (i * 3)) = some (.int .i64 u.k) ∧ W.cell? (a.add (i * 3 + 1)) = some (.int .i64 u.n) ∧ W.cell? (a.add (i * 3 + 2)) = some (.string u.s)) ∧ InI64 u.n ∧ u.s.size ≤ maxLen := by
      intro i hin
      obtain ⟨cs', hcells, htrod⟩ := hi i (by omega)
      rw [cl_val] at hcells
      obtain ⟨_, hlen, hat⟩ := World.cells?_some hcells
      obtain ⟨xs, n1, _, _, _, hxl, hg⟩ := DataW.trod_struct Try.underlying47 htrod
      match cs', hlen with
      | [w0, w1, w2], _ =>
        have hxl3 : xs.length = 3 := hxl
        obtain ⟨y0, y1, y2, rfl⟩ : ∃ y0 y1 y2, xs = [y0, y1, y2] := by
          match xs, hxl3 with
          | [a0, a1, a2], _ => exact ⟨a0, a1, a2, rfl⟩
        have g0 : DataW.trod enc Try.prog W 0 (fun _ => true) true n1 3 [w0] = some y0 := by
          have g : DataW.trod enc Try.prog W 0 (fun _ => true) true n1 3 (List.take (Try.prog.cellsOf 3) (List.drop 0 [w0, w1, w2])) = some y0 := hg 0 _ rfl
          rw [cl_int] at g
          exact g
        have g1 : DataW.trod enc Try.prog W 0 (fun _ => true) true n1 3 [w1] = some y1 := by
          have g : DataW.trod enc Try.prog W 0 (fun _ => true) true n1 3 (List.take (Try.prog.cellsOf 3) (List.drop 1 [w0, w1, w2])) = some y1 := hg 1 _ rfl
          rw [cl_int] at g
          exact g
        have g2 : DataW.trod enc Try.prog W 0 (fun _ => true) true n1 9 [w2] = some y2 := by
          have g : DataW.trod enc Try.prog W 0 (fun _ => true) true n1 9 (List.take (Try.prog.cellsOf 9) (List.drop 2 [w0, w1, w2])) = some y2 := hg 2 _ rfl
          rw [cl_string] at g
          exact g
        obtain ⟨z0, e0, _, _⟩ := DataW.trod_int Try.underlying3 g0
        obtain ⟨z1, e1, _, wf1⟩ := DataW.trod_int Try.underlying3 g1
        obtain ⟨z2, e2, _, hz2⟩ := DataW.trod_string Try.underlying9 g2
        simp at e0 e1 e2
        subst e0
        subst e1
        subst e2
        have c0 := hat 0 (by omega)
        have c1 := hat 1 (by omega)
        have c2 := hat 2 (by omega)
        rw [Go.Deep.add_add] at c0 c1 c2
        have bd := bounds_i64 wf1
        exact ⟨⟨z0, z1, z2⟩, ⟨c0, c1, c2⟩, by unfold InI64; dsimp only; omega, hz2⟩
    obtain ⟨f, hfv⟩ := Go.Deep.choose_lt hone
    refine ⟨some a, n, c, (List.range n).map f, rfl, by omega, vals_of_cells ?_ fun i hin => (hfv i hin).1, ?_, ?_⟩
    · intro hn
      obtain ⟨p, hp, hpb⟩ := row_block (a := a) (n := c * Try.prog.cellsOf 47) (by rw [cl_val]; omega)
      rw [← hpb]
      refine hlt p ?_
      rw [hx]
      exact List.mem_append_left _ hp
    · intro u hu'
      obtain ⟨i, hin, rfl⟩ := List.mem_map.1 hu'
      exact (hfv i (List.mem_range.1 hin)).2.1
    · intro u hu'
      obtain ⟨i, hin, rfl⟩ := List.mem_map.1 hu'
      exact (hfv i (List.mem_range.1 hin)).2.2
set_option maxRecDepth 100000 in
theorem reply_of {cs : List Value} {x : DataW H × List MemPlace} {fuel : Nat} (hl : cs.length = 5) (h : DataW.trod enc Try.prog W 0 (fun _ => true) true fuel 82 cs = some x) (hlt : ∀ y ∈ x.2, y.block < W.heap.size) :
    ∃ (r : Rp) (A : Option Addr) (rn d : Nat) (X : Option Addr) (m y : Nat), cs = [.int .i64 r.code, .bool r.there, .slice A rn d, .slice X m y, .int .i64 r.id] ∧ RpIn W W.heap.size r A rn := by
  obtain ⟨xs, n1, _, hx, _, hxl, hg⟩ := DataW.trod_struct Try.underlying82 h
  have hpl : ∀ y ∈ xs, ∀ b ∈ y.2, b.block < W.heap.size := fun y hy b hb => hlt b (by rw [hx]; exact List.mem_flatMap.2 ⟨y, hy, hb⟩)
  have hxl : xs.length = 5 := hxl
  obtain ⟨a0, a1, a2, a3, a4, rfl⟩ : ∃ a0 a1 a2 a3 a4, cs = [a0, a1, a2, a3, a4] := by
    match cs, hl with
    | [a0, a1, a2, a3, a4], _ => exact ⟨a0, a1, a2, a3, a4, rfl⟩
  obtain ⟨y0, y1, y2, y3, y4, rfl⟩ : ∃ y0 y1 y2 y3 y4, xs = [y0, y1, y2, y3, y4] := by
    match xs, hxl with
    | [a0, a1, a2, a3, a4], _ => exact ⟨a0, a1, a2, a3, a4, rfl⟩
  have g0 : DataW.trod enc Try.prog W 0 (fun _ => true) true n1 24 [a0] = some y0 := by
    have g : DataW.trod enc Try.prog W 0 (fun _ => true) true n1 24 (List.take (Try.prog.cellsOf 24) (List.drop 0 [a0, a1, a2, a3, a4])) = some y0 := hg 0 _ rfl
    rw [cl_err] at g
    exact g
  have g1 : DataW.trod enc Try.prog W 0 (fun _ => true) true n1 4 [a1] = some y1 := by
    have g : DataW.trod enc Try.prog W 0 (fun _ => true) true n1 4 (List.take (Try.prog.cellsOf 4) (List.drop 1 [a0, a1, a2, a3, a4])) = some y1 := hg 1 _ rfl
    rw [cl_bool] at g
    exact g
  have g2 : DataW.trod enc Try.prog W 0 (fun _ => true) true n1 79 [a2] = some y2 := by
    have g : DataW.trod enc Try.prog W 0 (fun _ => true) true n1 79 (List.take (Try.prog.cellsOf 79) (List.drop 2 [a0, a1, a2, a3, a4])) = some y2 := hg 2 _ rfl
    rw [cl_rec] at g
    exact g
  have g3 : DataW.trod enc Try.prog W 0 (fun _ => true) true n1 80 [a3] = some y3 := by
    have g : DataW.trod enc Try.prog W 0 (fun _ => true) true n1 80 (List.take (Try.prog.cellsOf 80) (List.drop 3 [a0, a1, a2, a3, a4])) = some y3 := hg 3 _ rfl
    rw [cl_rows] at g
    exact g
  have g4 : DataW.trod enc Try.prog W 0 (fun _ => true) true n1 3 [a4] = some y4 := by
    have g : DataW.trod enc Try.prog W 0 (fun _ => true) true n1 3 (List.take (Try.prog.cellsOf 3) (List.drop 4 [a0, a1, a2, a3, a4])) = some y4 := hg 4 _ rfl
    rw [cl_int] at g
    exact g
  obtain ⟨z0, e0, _, _⟩ := DataW.trod_int Try.underlying24 g0
  obtain ⟨z1, e1, _⟩ := DataW.trod_bool Try.underlying4 g1
  obtain ⟨A, rn, d, l, e2, hn, hv, hi, ht⟩ := rec_of g2 (hpl y2 (by simp))
  have h3 : ∃ X m y, a3 = .slice X m y := by
    rcases Go.Deep.open_slice Try.underlying80 g3 with ⟨hcs, _⟩ | ⟨a, n, c, m, n', D, Pl, hcs, _⟩
    · simp at hcs
      exact ⟨none, 0, 0, hcs⟩
    · simp at hcs
      exact ⟨some a, n, c, hcs⟩
  obtain ⟨X, m, y, e3⟩ := h3
  obtain ⟨z4, e4, _, _⟩ := DataW.trod_int Try.underlying3 g4
  simp at e0 e1 e4
  subst e0 e1 e2 e3 e4
  exact ⟨⟨z0, z1, l, z4⟩, A, rn, d, X, m, y, rfl, hv, hn, hi, ht⟩
set_option maxRecDepth 100000 in
theorem open_reply {r0 : Reach} {base : Nat} {v : Value} {d0 : DataW H} {ps : List MemPlace} (hval : Value.okWide Try.prog W r0 base 82 v) (h : DataW.Trod enc Try.prog W 0 (fun _ => true) true 82 v d0 ps) (hlt : ∀ x ∈ ps, x.block < W.heap.size) :
    ∃ (r : Rp) (A : Option Addr) (rn d : Nat) (X : Option Addr) (m y : Nat), v = .agg #[.int .i64 r.code, .bool r.there, .slice A rn d, .slice X m y, .int .i64 r.id] ∧ RpIn W W.heap.size r A rn := by
  obtain ⟨cs, rfl, hsz⟩ := okWide_struct Try.underlying82 hval
  obtain ⟨fuel, hf⟩ := h
  rw [cl_rep] at hsz
  obtain ⟨l⟩ := cs
  obtain ⟨r, A, rn, d, X, m, y, e, h1⟩ := reply_of (cs := l) (by simpa using hsz) (by simpa [Value.cells] using hf) hlt
  subst e
  exact ⟨r, A, rn, d, X, m, y, rfl, h1⟩
set_option maxRecDepth 100000 in
theorem open_oas {r0 : Reach} {base : Nat} {v : Value} {d0 : DataW H} {ps : List MemPlace} (hval : Value.okWide Try.prog W r0 base 70 v) (h : DataW.Trod enc Try.prog W 0 (fun _ => true) true 70 v d0 ps) (hlt : ∀ x ∈ ps, x.block < W.heap.size) :
    ∃ (A : Option Addr) (n c : Nat) (l : List ActO), v = .slice A n c ∧ n ≤ c ∧ c ≤ maxLen ∧ HasOas W W.heap.size A n l := by
  obtain ⟨A, n, c, rfl⟩ := okWide_slice Try.underlying70 hval
  obtain ⟨fuel, hf⟩ := h
  rcases Go.Deep.open_slice Try.underlying70 hf with ⟨hcs, _⟩ | ⟨a, len, cap, m, n', D, Pl, hcs, _, hle, hmax, hm, hx, hi⟩
  · simp [Value.cells] at hcs
    obtain ⟨rfl, rfl, rfl⟩ := hcs
    exact ⟨none, 0, 0, [], rfl, Nat.le_refl _, by simp [maxLen], rfl, by simp⟩
  · simp [Value.cells] at hcs
    obtain ⟨rfl, rfl, rfl⟩ := hcs
    simp only [if_true] at hm
    have hm2 := hm.symm
    subst hm2
    simp only [Prod.mk.injEq] at hx
    have hone : ∀ i, i < n → ∃ o : ActO, (∀ j u, o.cells[j]? = some u → W.cell? ((a.add (i * 8)).add j) = some u) ∧ ActOk W W.heap.size o := by
      intro i hin
      obtain ⟨cs', hcells, htrod⟩ := hi i (by omega)
      rw [cl_oa] at hcells
      obtain ⟨_, hlen, hat⟩ := World.cells?_some hcells
      obtain ⟨xs, n1, _, hxe, _, hxl, hg⟩ := DataW.trod_struct Try.underlying84 htrod
      have hpl : ∀ y ∈ xs, ∀ b ∈ y.2, b.block < W.heap.size := fun y hy b hb => hlt b (by
        rw [hx.2]
        refine List.mem_append_right _ (List.mem_flatMap.2 ⟨i, List.mem_range.2 (by omega), ?_⟩)
        have hPi : Pl i = xs.flatMap (·.2) := congrArg Prod.snd hxe
        rw [hPi]
        exact List.mem_flatMap.2 ⟨y, hy, hb⟩)
      have hxs : xs.length = 4 := hxl
      have g0 := hg 0 _ rfl
      have g1 := hg 1 _ rfl
      have g2 := hg 2 _ rfl
      have g3 := hg 3 _ rfl
      obtain ⟨y0, y1, y2, y3, rfl⟩ : ∃ y0 y1 y2 y3, xs = [y0, y1, y2, y3] := by
        match xs, hxs with
        | [a0, a1, a2, a3], _ => exact ⟨a0, a1, a2, a3, rfl⟩
      obtain ⟨v0, v1, v2, vs, hvs, rfl⟩ : ∃ v0 v1 v2 vs, vs.length = 5 ∧ cs' = v0 :: v1 :: v2 :: vs := by
        match cs', hlen with
        | [w0, w1, w2, w3, w4, w5, w6, w7], _ => exact ⟨w0, w1, w2, [w3, w4, w5, w6, w7], rfl, rfl⟩
      have k0 : DataW.trod enc Try.prog W 0 (fun _ => true) true n1 3 [v0] = some y0 := by
        have g : DataW.trod enc Try.prog W 0 (fun _ => true) true n1 3 (List.take (Try.prog.cellsOf 3) (List.drop 0 (v0 :: v1 :: v2 :: vs))) = some y0 := g0
        rw [cl_int] at g
        exact g
      have k1 : DataW.trod enc Try.prog W 0 (fun _ => true) true n1 3 [v1] = some y1 := by
        have g : DataW.trod enc Try.prog W 0 (fun _ => true) true n1 3 (List.take (Try.prog.cellsOf 3) (List.drop 1 (v0 :: v1 :: v2 :: vs))) = some y1 := g1
        rw [cl_int] at g
        exact g
      have k2 : DataW.trod enc Try.prog W 0 (fun _ => true) true n1 3 [v2] = some y2 := by
        have g : DataW.trod enc Try.prog W 0 (fun _ => true) true n1 3 (List.take (Try.prog.cellsOf 3) (List.drop 2 (v0 :: v1 :: v2 :: vs))) = some y2 := g2
        rw [cl_int] at g
        exact g
      have k3 : DataW.trod enc Try.prog W 0 (fun _ => true) true n1 82 vs = some y3 := by
        have g : DataW.trod enc Try.prog W 0 (fun _ => true) true n1 82 (List.take (Try.prog.cellsOf 82) (List.drop 3 (v0 :: v1 :: v2 :: vs))) = some y3 := g3
        rw [cl_rep, List.drop_succ_cons, List.drop_succ_cons, List.drop_succ_cons, List.drop_zero, List.take_of_length_le (by omega)] at g
        exact g
      obtain ⟨z0, e0, _, wf0⟩ := DataW.trod_int Try.underlying3 k0
      obtain ⟨z1, e1, _, wf1⟩ := DataW.trod_int Try.underlying3 k1
      obtain ⟨z2, e2, _, wf2⟩ := DataW.trod_int Try.underlying3 k2
      simp at e0 e1 e2
      subst e0 e1 e2
      obtain ⟨r, A, rn, d, X, m, y, e3, h3⟩ := reply_of hvs k3 (hpl y3 (by simp))
      subst e3
      refine ⟨⟨z0, z1, z2, r, A, rn, d, X, m, y⟩, fun j u hu => ?_, ⟨h3, wf1, wf2, wf0⟩⟩
      have hj : j < 8 := (List.getElem?_eq_some_iff.1 hu).1
      rw [hat j hj]
      exact hu
    obtain ⟨f, hfv⟩ := Go.Deep.choose_lt hone
    refine ⟨some a, n, c, (List.range n).map f, rfl, hle, by omega, by simp, fun i o ho => ?_⟩
    have hin : i < n := by have := (List.getElem?_eq_some_iff.1 ho).1; simpa using this
    have e : f i = o := by simpa [hin] using ho
    obtain ⟨g1, g2⟩ := hfv i hin
    refine ⟨a, rfl, ?_, e ▸ g1, e ▸ g2⟩
    obtain ⟨p, hp, hpb⟩ := row_block (a := a) (n := c * Try.prog.cellsOf 84) (by rw [cl_oa]; omega)
    rw [← hpb]
    refine hlt p ?_
    rw [hx.2]
    exact List.mem_append_left _ hp
end
end Go.Proofs.Ytdfhnjocpfjagaa

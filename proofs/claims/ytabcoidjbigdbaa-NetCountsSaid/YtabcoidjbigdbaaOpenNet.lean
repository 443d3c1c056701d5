/- An argument that is a row of acts of layer 14 (structs of a number, a letter and a number), opened. -/
import Derived.Test.YtabcoidjbigdbaaOpenLet
import Derived.Test.YtabcoidjbigdbaaLetIn
namespace Go.Proofs.Ytabcoidjbigdbaa
open Go.ChangeShapes Go.WideShapes Go.ChangeAt Go.RowKit

structure ActN where
  k : Int
  L : Let
  Ap : Option Addr
  np : Nat
  cp : Nat
  Ai : Option Addr
  ni : Nat
  ci : Nat
  n : Int
instance : Inhabited ActN := ⟨⟨0, ⟨0, 0, 0, 0, 0, 0, 0, ⟨#[]⟩, ⟨#[]⟩, [], [], 0, false, ⟨#[]⟩⟩, none, 0, 0, none, 0, 0, 0⟩⟩
def ActN.cells (o : ActN) : List Value := [.int .i64 o.k, .int .i64 o.L.kind, .int .i64 o.L.frm, .int .i64 o.L.to, .int .i64 o.L.a, .int .i64 o.L.b, .int .i64 o.L.c, .int .i64 o.L.d, .string o.L.s, .string o.L.t, .slice o.Ap o.np o.cp, .slice o.Ai o.ni o.ci, .int .i64 o.L.code, .bool o.L.yes, .string o.L.body, .int .i64 o.n]
/-- n acts, from A on, in memory below block B -/
def HasActs (w : World) (B : Nat) (A : Option Addr) (n : Nat) (l : List ActN) : Prop :=
  l.length = n ∧ ∀ i o, l[i]? = some o → ∃ a : Addr, A = some a ∧ a.block < B ∧ (∀ j u, o.cells[j]? = some u → w.cell? ((a.add (i * 16)).add j) = some u) ∧ LetIn w B o.L o.Ap o.np o.Ai o.ni ∧ (Lit.int .i64 o.n).wf = true
theorem HasActs.belowOf {w w' : World} {B C n : Nat} {A : Option Addr} {l : List ActN} (h : HasActs w B A n l) (hb : Below C w w') (hC : B ≤ C) : HasActs w' B A n l :=
  ⟨h.1, fun i o ho => by
    obtain ⟨a, e, h1, h2, h3, h4⟩ := h.2 i o ho
    exact ⟨a, e, h1, fun j u hu => (hb.cell (by rw [addr_block, addr_block]; omega)).trans (h2 j u hu), h3.belowOf hb hC, h4⟩⟩
theorem act_step (a : Addr) (j : Nat) (hj : 0 < j) : a.add j = ⟨a.block, a.off + j, none⟩ := by
  unfold Addr.add
  rw [if_neg (by omega)]
theorem add_zero (a : Addr) : a.add 0 = a := by unfold Addr.add; rfl
theorem HasActs.at_ {w : World} {B n : Nat} {A : Option Addr} {l : List ActN} (h : HasActs w B A n l) {i : Nat} (hi : i < n) : ∃ (a : Addr) (o : ActN), A = some a ∧ a.block < B ∧ l[i]? = some o ∧ w.cell? (a.add (i * 16)) = some (.int .i64 o.k) ∧
    (∀ j u, [.int .i64 o.L.kind, .int .i64 o.L.frm, .int .i64 o.L.to, .int .i64 o.L.a, .int .i64 o.L.b, .int .i64 o.L.c, .int .i64 o.L.d, .string o.L.s, .string o.L.t, .slice o.Ap o.np o.cp, .slice o.Ai o.ni o.ci, .int .i64 o.L.code, .bool o.L.yes, .string o.L.body][j]? = some u → w.cell? ⟨(a.add (i * 16)).block, (a.add (i * 16)).off + (j + 1), none⟩ = some u) ∧ w.cell? ⟨(a.add (i * 16)).block, (a.add (i * 16)).off + 15, none⟩ = some (.int .i64 o.n) ∧
    LetIn w B o.L o.Ap o.np o.Ai o.ni ∧ (Lit.int .i64 o.n).wf = true := by
  have hil : i < l.length := by have := h.1; omega
  obtain ⟨a, e, h1, h2, h3, h4⟩ := h.2 i l[i] (List.getElem?_eq_getElem hil)
  refine ⟨a, _, e, h1, List.getElem?_eq_getElem hil, ?_, ?_, ?_, h3, h4⟩
  · have := h2 0 _ rfl
    rwa [add_zero] at this
  · intro j u hu
    have := h2 (j + 1) u (by
      have hj := (List.getElem?_eq_some_iff.1 hu).1
      unfold ActN.cells
      rw [List.getElem?_cons_succ, show ([.int .i64 l[i].L.kind, .int .i64 l[i].L.frm, .int .i64 l[i].L.to, .int .i64 l[i].L.a, .int .i64 l[i].L.b, .int .i64 l[i].L.c, .int .i64 l[i].L.d, .string l[i].L.s, .string l[i].L.t, .slice l[i].Ap l[i].np l[i].cp, .slice l[i].Ai l[i].ni l[i].ci, .int .i64 l[i].L.code, .bool l[i].L.yes, .string l[i].L.body, .int .i64 l[i].n] : List Value) = [.int .i64 l[i].L.kind, .int .i64 l[i].L.frm, .int .i64 l[i].L.to, .int .i64 l[i].L.a, .int .i64 l[i].L.b, .int .i64 l[i].L.c, .int .i64 l[i].L.d, .string l[i].L.s, .string l[i].L.t, .slice l[i].Ap l[i].np l[i].cp, .slice l[i].Ai l[i].ni l[i].ci, .int .i64 l[i].L.code, .bool l[i].L.yes, .string l[i].L.body] ++ [.int .i64 l[i].n] from rfl, List.getElem?_append_left hj]
      exact hu)
    rwa [act_step _ (j + 1) (by omega)] at this
  · have := h2 15 _ rfl
    rwa [act_step _ 15 (by omega)] at this
section
variable {H : Type} {enc : TypeId × Value → H} {W : World}
theorem cl_act : Try.prog.cellsOf 49 = 16 := by kernel_rfl
theorem cl_let : Try.prog.cellsOf 26 = 14 := by kernel_rfl
set_option maxRecDepth 100000 in
theorem open_actsN {r : Reach} {base : Nat} {v : Value} {d : DataW H} {ps : List MemPlace} (hval : Value.okWide Try.prog W r base 41 v) (h : DataW.Trod enc Try.prog W 0 (fun _ => true) true 41 v d ps) (hz : ∀ k ∈ d.weights Try.prog 41, k ≤ reachBytes) (hlt : ∀ x ∈ ps, x.block < W.heap.size) :
    ∃ (A : Option Addr) (n c : Nat) (l : List ActN), v = .slice A n c ∧ n ≤ c ∧ c ≤ maxLen ∧ HasActs W W.heap.size A n l := by
  obtain ⟨A, n, c, rfl⟩ := okWide_slice Try.underlying41 hval
  obtain ⟨fuel, hf⟩ := h
  rcases Go.Deep.open_slice Try.underlying41 hf with ⟨hcs, _⟩ | ⟨a, len, cap, m, n', D, Pl, hcs, _, hle, hmax, hm, hx, hi⟩
  · simp [Value.cells] at hcs
    obtain ⟨rfl, rfl, rfl⟩ := hcs
    exact ⟨none, 0, 0, [], rfl, Nat.le_refl _, by simp [maxLen], rfl, by simp⟩
  · simp [Value.cells] at hcs
    obtain ⟨rfl, rfl, rfl⟩ := hcs
    simp only [if_true] at hm
    have hm2 := hm.symm
    subst hm2
    simp only [Prod.mk.injEq] at hx
    have hone : ∀ i, i < n → ∃ o : ActN, (∀ j u, o.cells[j]? = some u → W.cell? ((a.add (i * 16)).add j) = some u) ∧ LetIn W W.heap.size o.L o.Ap o.np o.Ai o.ni ∧ (Lit.int .i64 o.n).wf = true := by
      intro i hin
      obtain ⟨cs', hcells, htrod⟩ := hi i (by omega)
      rw [cl_act] at hcells
      obtain ⟨_, hlen, hat⟩ := World.cells?_some hcells
      obtain ⟨xs, n1, _, hxe, _, hxl, hg⟩ := DataW.trod_struct Try.underlying49 htrod
      have hzi : ∀ k ∈ DataW.weightsEach Try.prog [3, 26, 3] (xs.map (·.1)), k ≤ reachBytes := fun k hk => hz k (by
        rw [hx.1]
        simp only [DataW.weights, Try.underlying41]
        refine List.mem_cons_of_mem _ (List.mem_append_left _ (wt_all (d := D i) (List.mem_map.2 ⟨i, List.mem_range.2 hin, rfl⟩) ?_))
        have hDi : D i = .agg (xs.map (·.1)) := congrArg Prod.fst hxe
        rw [hDi]
        simpa [DataW.weights, Try.underlying49] using hk)
      have hpl : ∀ y ∈ xs, ∀ b ∈ y.2, b.block < W.heap.size := fun y hy b hb => hlt b (by
        rw [hx.2]
        refine List.mem_append_right _ (List.mem_flatMap.2 ⟨i, List.mem_range.2 (by omega), ?_⟩)
        have hPi : Pl i = xs.flatMap (·.2) := congrArg Prod.snd hxe
        rw [hPi]
        exact List.mem_flatMap.2 ⟨y, hy, hb⟩)
      have hxs : xs.length = 3 := hxl
      have g0 := hg 0 _ rfl
      have g1 := hg 1 _ rfl
      have g2 := hg 2 _ rfl
      obtain ⟨y0, y1, y2, rfl⟩ : ∃ y0 y1 y2, xs = [y0, y1, y2] := by
        match xs, hxs with
        | [a0, a1, a2], _ => exact ⟨a0, a1, a2, rfl⟩
      obtain ⟨v0, vs, v2, hvs, rfl⟩ : ∃ v0 vs v2, vs.length = 14 ∧ cs' = v0 :: (vs ++ [v2]) := by
        match cs', hlen with
        | [w0, w1, w2, w3, w4, w5, w6, w7, w8, w9, w10, w11, w12, w13, w14, w15], _ => exact ⟨w0, [w1, w2, w3, w4, w5, w6, w7, w8, w9, w10, w11, w12, w13, w14], w15, rfl, rfl⟩
      have k0 : DataW.trod enc Try.prog W 0 (fun _ => true) true n1 3 [v0] = some y0 := by
        have g : DataW.trod enc Try.prog W 0 (fun _ => true) true n1 3 (List.take (Try.prog.cellsOf 3) (List.drop 0 (v0 :: (vs ++ [v2])))) = some y0 := g0
        rw [cl_int] at g
        exact g
      have k1 : DataW.trod enc Try.prog W 0 (fun _ => true) true n1 26 vs = some y1 := by
        have g : DataW.trod enc Try.prog W 0 (fun _ => true) true n1 26 (List.take (Try.prog.cellsOf 26) (List.drop 1 (v0 :: (vs ++ [v2])))) = some y1 := g1
        rw [cl_let, List.drop_succ_cons, List.drop_zero, List.take_append_of_le_length (by omega), List.take_of_length_le (by omega)] at g
        exact g
      have k2 : DataW.trod enc Try.prog W 0 (fun _ => true) true n1 3 [v2] = some y2 := by
        have g : DataW.trod enc Try.prog W 0 (fun _ => true) true n1 3 (List.take (Try.prog.cellsOf 3) (List.drop 15 (v0 :: (vs ++ [v2])))) = some y2 := g2
        rw [cl_int, List.drop_succ_cons, List.drop_append_of_le_length (by omega), List.drop_of_length_le (by omega)] at g
        exact g
      obtain ⟨z0, e0, _, _⟩ := DataW.trod_int Try.underlying3 k0
      obtain ⟨z2, e2, _, wf2⟩ := DataW.trod_int Try.underlying3 k2
      simp at e0 e2
      subst e0 e2
      obtain ⟨L, Ap, np, cp, Ai, ni, ci, e1, h1, h2, h3, h4, h5, h6⟩ := let_cells_of hvs k1 (fun k hk => hzi k (DataW.weights_mem_each (j := 1) (d := y1.1) rfl rfl k hk)) (hpl y1 (by simp))
      subst e1
      refine ⟨⟨z0, L, Ap, np, cp, Ai, ni, ci, z2⟩, fun j u hu => ?_, ⟨h1, h2, h3, h4, h5, h6⟩, wf2⟩
      have hj : j < 16 := (List.getElem?_eq_some_iff.1 hu).1
      rw [hat j hj]
      exact hu
    obtain ⟨f, hfv⟩ := Go.Deep.choose_lt hone
    refine ⟨some a, n, c, (List.range n).map f, rfl, hle, by omega, by simp, fun i o ho => ?_⟩
    have hin : i < n := by have := (List.getElem?_eq_some_iff.1 ho).1; simpa using this
    have e : f i = o := by simpa [hin] using ho
    obtain ⟨g1, g2, g3⟩ := hfv i hin
    refine ⟨a, rfl, ?_, e ▸ g1, e ▸ g2, e ▸ g3⟩
    obtain ⟨p, hp, hpb⟩ := row_block (a := a) (n := c * Try.prog.cellsOf 49) (by rw [cl_act]; omega)
    rw [← hpb]
    refine hlt p ?_
    rw [hx.2]
    exact List.mem_append_left _ hp
end
end Go.Proofs.Ytabcoidjbigdbaa

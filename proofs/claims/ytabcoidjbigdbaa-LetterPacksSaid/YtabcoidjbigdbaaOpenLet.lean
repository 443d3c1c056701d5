/- An argument that is a letter, opened: its rows in memory, its texts no longer than memory reaches. -/
import Derived.Test.YtabcoidjbigdbaaLetA
import Derived.Test.YtabcoidjbigdbaaOpen
import Derived.Deep.Slices
import Derived.OpenShut
import Derived.SizedLaws
namespace Go.Proofs.Ytabcoidjbigdbaa
open Go.ChangeShapes Go.WideShapes Go.ChangeAt Go.RowKit

instance : Inhabited LPr := ⟨⟨⟨#[]⟩, ⟨#[]⟩⟩⟩
instance : Inhabited LIt := ⟨⟨⟨#[]⟩, 0, false⟩⟩
section
variable {H : Type} {enc : TypeId × Value → H} {P : Program} {W : World}
theorem wt_all {e : TypeId} {d : DataW H} {k : Nat} : ∀ {l : List (DataW H)}, d ∈ l → k ∈ d.weights P e → k ∈ DataW.weightsAll P e l
  | y :: l, h, hk => by
    simp only [DataW.weightsAll, List.mem_append]
    rcases List.mem_cons.1 h with rfl | h
    · exact .inl hk
    · exact .inr (wt_all h hk)
theorem wt_str {ts : List TypeId} {ds : List (DataW H)} {j R : Nat} {t : TypeId} {bytes : List UInt8} (ht : ts[j]? = some t) (hd : ds[j]? = some (.lit (.string bytes))) (hz : ∀ k ∈ DataW.weightsEach P ts ds, k ≤ R) : bytes.length ≤ R :=
  hz _ (DataW.weights_mem_each ht hd _ (by simp [DataW.weights]))
theorem lps_of_trod {t e : TypeId} {f0 f1 : Field} {fuel : Nat} {v : Value} {x : DataW H × List MemPlace} (ht : P.underlying t = some (.slice e)) (he : P.underlying e = some (.struct #[f0, f1])) (hC : P.cellsOf e = 2)
    (ho : f0.offset = 0 ∧ f1.offset = 1) (hc : P.cellsOf f0.type = 1 ∧ P.cellsOf f1.type = 1) (hu : P.underlying f0.type = some .string ∧ P.underlying f1.type = some .string)
    (hf : DataW.trod enc P W 0 (fun _ => true) true fuel t [v] = some x) (hz : ∀ k ∈ x.1.weights P t, k ≤ reachBytes) (hlt : ∀ y ∈ x.2, y.block < W.heap.size) :
    ∃ (A : Option Addr) (n c : Nat) (l : List LPr), v = .slice A n c ∧ n ≤ c ∧ c ≤ maxLen ∧ HasLps W W.heap.size A n l ∧ ∀ u ∈ l, u.k.size ≤ reachBytes ∧ u.v.size ≤ reachBytes := by
  rcases Go.Deep.open_slice ht hf with ⟨hcs, _⟩ | ⟨a, n, c, m, n', D, Pl, hcs, _, hle, hmax, hm, hx, hi⟩
  · simp at hcs
    subst hcs
    exact ⟨none, 0, 0, [], rfl, Nat.le_refl _, by simp [maxLen], HasLps.nil _ _ _, by simp⟩
  · simp at hcs
    subst hcs
    simp only [if_true] at hm
    have hm2 := hm.symm
    subst hm2
    have hone : ∀ i, i < n → ∃ u : LPr, (W.cell? (a.add (i * 2)) = some (.string u.k) ∧ W.cell? (a.add (i * 2 + 1)) = some (.string u.v)) ∧ (u.k.size ≤ reachBytes ∧ u.v.size ≤ reachBytes) := by
      intro i hin
      obtain ⟨cs', hcells, htrod⟩ := hi i (by omega)
      rw [hC] at hcells
      obtain ⟨_, hlen, hat⟩ := World.cells?_some hcells
      obtain ⟨xs, n1, _, hxe, _, _, hg⟩ := DataW.trod_struct he htrod
      have hzi : ∀ k ∈ DataW.weightsEach P [f0.type, f1.type] (xs.map (·.1)), k ≤ reachBytes := fun k hk => hz k (by
        rw [hx]
        simp only [DataW.weights, ht]
        refine List.mem_cons_of_mem _ (List.mem_append_left _ (wt_all (d := D i) (List.mem_map.2 ⟨i, List.mem_range.2 hin, rfl⟩) ?_))
        have hDi : D i = .agg (xs.map (·.1)) := congrArg Prod.fst hxe
        rw [hDi]
        simpa [DataW.weights, he] using hk)
      match cs', hlen with
      | [w0, w1], _ =>
        have g0 := hg 0 f0 rfl
        have g1 := hg 1 f1 rfl
        rw [ho.1, hc.1] at g0
        rw [ho.2, hc.2] at g1
        have hxs : xs.length = 2 := by assumption
        obtain ⟨y0, y1, rfl⟩ : ∃ y0 y1, xs = [y0, y1] := by
          match xs, hxs with
          | [a0, a1], _ => exact ⟨a0, a1, rfl⟩
        · skip
          obtain ⟨z0, e0, q0, _⟩ := DataW.trod_string hu.1 g0
          obtain ⟨z1, e1, q1, _⟩ := DataW.trod_string hu.2 g1
          simp at e0 e1
          subst e0
          subst e1
          have c0 := hat 0 (by omega)
          have c1 := hat 1 (by omega)
          rw [Go.Deep.add_add] at c0 c1
          have s0 : z0.size ≤ reachBytes := by have := wt_str (j := 0) (bytes := z0.data.toList) rfl (by rw [show ([y0, y1].map (·.1))[0]? = some y0.1 from rfl, q0]) hzi; simpa using this
          have s1 : z1.size ≤ reachBytes := by have := wt_str (j := 1) (bytes := z1.data.toList) rfl (by rw [show ([y0, y1].map (·.1))[1]? = some y1.1 from rfl, q1]) hzi; simpa using this
          exact ⟨⟨z0, z1⟩, ⟨c0, c1⟩, ⟨s0, s1⟩⟩
    obtain ⟨f, hfv⟩ := Go.Deep.choose_lt hone
    refine ⟨some a, n, c, (List.range n).map f, rfl, hle, hmax, ⟨by simp, ?_⟩, fun u hu' => ?_⟩
    · refine ⟨by rw [lpCells_len]; simp, fun k u hu' => ⟨a, rfl, ?_, ?_⟩⟩
      · obtain ⟨p, hp, hpb⟩ := row_block (a := a) (n := c * P.cellsOf e) (by
          have := (List.getElem?_eq_some_iff.1 hu').1
          rw [lpCells_len] at this
          simp at this
          rw [hC]; omega)
        rw [← hpb]
        refine hlt p ?_
        rw [hx]
        exact List.mem_append_left _ hp
      · have hk := (List.getElem?_eq_some_iff.1 hu').1
        rw [lpCells_len] at hk
        simp at hk
        have hin : k / 2 < n := by omega
        have hgi : ((List.range n).map f)[k / 2]? = some (f (k / 2)) := by simp [hin]
        obtain ⟨c0, c1⟩ := lpCells_at _ _ _ hgi
        obtain ⟨⟨d0, d1⟩, -⟩ := hfv (k / 2) hin
        have hcase : k = k / 2 * 2 ∨ k = k / 2 * 2 + 1 := by omega
        rcases hcase with e | e
        · rw [e, c0] at hu'; rw [e, d0, ← hu']
        · rw [e, c1] at hu'; rw [e, d1, ← hu']
    · obtain ⟨i, hin, rfl⟩ := List.mem_map.1 hu'
      exact (hfv i (List.mem_range.1 hin)).2
theorem lis_of_trod {t e : TypeId} {f0 f1 f2 : Field} {fuel : Nat} {v : Value} {x : DataW H × List MemPlace} (ht : P.underlying t = some (.slice e)) (he : P.underlying e = some (.struct #[f0, f1, f2])) (hC : P.cellsOf e = 3)
    (ho : f0.offset = 0 ∧ f1.offset = 1 ∧ f2.offset = 2) (hc : P.cellsOf f0.type = 1 ∧ P.cellsOf f1.type = 1 ∧ P.cellsOf f2.type = 1) (hu : P.underlying f0.type = some .string ∧ P.underlying f1.type = some (.int .i64) ∧ P.underlying f2.type = some .bool)
    (hf : DataW.trod enc P W 0 (fun _ => true) true fuel t [v] = some x) (hz : ∀ k ∈ x.1.weights P t, k ≤ reachBytes) (hlt : ∀ y ∈ x.2, y.block < W.heap.size) :
    ∃ (A : Option Addr) (n c : Nat) (l : List LIt), v = .slice A n c ∧ n ≤ c ∧ c ≤ maxLen ∧ HasLis W W.heap.size A n l ∧ ∀ u ∈ l, u.e.size ≤ reachBytes := by
  rcases Go.Deep.open_slice ht hf with ⟨hcs, _⟩ | ⟨a, n, c, m, n', D, Pl, hcs, _, hle, hmax, hm, hx, hi⟩
  · simp at hcs
    subst hcs
    exact ⟨none, 0, 0, [], rfl, Nat.le_refl _, by simp [maxLen], HasLis.nil _ _ _, by simp⟩
  · simp at hcs
    subst hcs
    simp only [if_true] at hm
    have hm2 := hm.symm
    subst hm2
    have hone : ∀ i, i < n → ∃ u : LIt, (W.cell? (a.add (i * 3)) = some (.string u.e) ∧ W.cell? (a.add (i * 3 + 1)) = some (.int .i64 u.v) ∧ W.cell? (a.add (i * 3 + 2)) = some (.bool u.g)) ∧ (u.e.size ≤ reachBytes) := by
      intro i hin
      obtain ⟨cs', hcells, htrod⟩ := hi i (by omega)
      rw [hC] at hcells
      obtain ⟨_, hlen, hat⟩ := World.cells?_some hcells
      obtain ⟨xs, n1, _, hxe, _, _, hg⟩ := DataW.trod_struct he htrod
      have hzi : ∀ k ∈ DataW.weightsEach P [f0.type, f1.type, f2.type] (xs.map (·.1)), k ≤ reachBytes := fun k hk => hz k (by
        rw [hx]
        simp only [DataW.weights, ht]
        refine List.mem_cons_of_mem _ (List.mem_append_left _ (wt_all (d := D i) (List.mem_map.2 ⟨i, List.mem_range.2 hin, rfl⟩) ?_))
        have hDi : D i = .agg (xs.map (·.1)) := congrArg Prod.fst hxe
        rw [hDi]
        simpa [DataW.weights, he] using hk)
      match cs', hlen with
      | [w0, w1, w2], _ =>
        have g0 := hg 0 f0 rfl
        have g1 := hg 1 f1 rfl
        have g2 := hg 2 f2 rfl
        rw [ho.1, hc.1] at g0
        rw [ho.2.1, hc.2.1] at g1
        rw [ho.2.2, hc.2.2] at g2
        have hxs : xs.length = 3 := by assumption
        obtain ⟨y0, y1, y2, rfl⟩ : ∃ y0 y1 y2, xs = [y0, y1, y2] := by
          match xs, hxs with
          | [a0, a1, a2], _ => exact ⟨a0, a1, a2, rfl⟩
        · skip
          obtain ⟨z0, e0, q0, _⟩ := DataW.trod_string hu.1 g0
          obtain ⟨z1, e1, _, _⟩ := DataW.trod_int hu.2.1 g1
          obtain ⟨z2, e2, _⟩ := DataW.trod_bool hu.2.2 g2
          simp at e0 e1 e2
          subst e0
          subst e1
          subst e2
          have c0 := hat 0 (by omega)
          have c1 := hat 1 (by omega)
          have c2 := hat 2 (by omega)
          rw [Go.Deep.add_add] at c0 c1 c2
          have s0 : z0.size ≤ reachBytes := by have := wt_str (j := 0) (bytes := z0.data.toList) rfl (by rw [show ([y0, y1, y2].map (·.1))[0]? = some y0.1 from rfl, q0]) hzi; simpa using this
          exact ⟨⟨z0, z1, z2⟩, ⟨c0, c1, c2⟩, s0⟩
    obtain ⟨f, hfv⟩ := Go.Deep.choose_lt hone
    refine ⟨some a, n, c, (List.range n).map f, rfl, hle, hmax, ⟨by simp, ?_⟩, fun u hu' => ?_⟩
    · refine ⟨by rw [liCells_len]; simp, fun k u hu' => ⟨a, rfl, ?_, ?_⟩⟩
      · obtain ⟨p, hp, hpb⟩ := row_block (a := a) (n := c * P.cellsOf e) (by
          have := (List.getElem?_eq_some_iff.1 hu').1
          rw [liCells_len] at this
          simp at this
          rw [hC]; omega)
        rw [← hpb]
        refine hlt p ?_
        rw [hx]
        exact List.mem_append_left _ hp
      · have hk := (List.getElem?_eq_some_iff.1 hu').1
        rw [liCells_len] at hk
        simp at hk
        have hin : k / 3 < n := by omega
        have hgi : ((List.range n).map f)[k / 3]? = some (f (k / 3)) := by simp [hin]
        obtain ⟨c0, c1, c2⟩ := liCells_at _ _ _ hgi
        obtain ⟨⟨d0, d1, d2⟩, -⟩ := hfv (k / 3) hin
        have hcase : k = k / 3 * 3 ∨ k = k / 3 * 3 + 1 ∨ k = k / 3 * 3 + 2 := by omega
        rcases hcase with e | e | e
        · rw [e, c0] at hu'; rw [e, d0, ← hu']
        · rw [e, c1] at hu'; rw [e, d1, ← hu']
        · rw [e, c2] at hu'; rw [e, d2, ← hu']
    · obtain ⟨i, hin, rfl⟩ := List.mem_map.1 hu'
      exact (hfv i (List.mem_range.1 hin)).2
end
section
variable {H : Type} {enc : TypeId × Value → H} {W : World}
theorem cl_int : Try.prog.cellsOf 3 = 1 := by kernel_rfl
theorem cl_string : Try.prog.cellsOf 9 = 1 := by kernel_rfl
theorem cl_prs : Try.prog.cellsOf 22 = 1 := by kernel_rfl
theorem cl_its : Try.prog.cellsOf 23 = 1 := by kernel_rfl
theorem cl_err : Try.prog.cellsOf 24 = 1 := by kernel_rfl
theorem cl_bool : Try.prog.cellsOf 4 = 1 := by kernel_rfl
set_option maxRecDepth 100000 in
theorem let_cells_of {cs : List Value} {x : DataW H × List MemPlace} {fuel : Nat} (hl : cs.length = 14) (h : DataW.trod enc Try.prog W 0 (fun _ => true) true fuel 26 cs = some x) (hz : ∀ k ∈ x.1.weights Try.prog 26, k ≤ reachBytes) (hlt : ∀ y ∈ x.2, y.block < W.heap.size) :
    ∃ (L : Let) (Ap : Option Addr) (np cp : Nat) (Ai : Option Addr) (ni ci : Nat), cs = [.int .i64 L.kind, .int .i64 L.frm, .int .i64 L.to, .int .i64 L.a, .int .i64 L.b, .int .i64 L.c, .int .i64 L.d, .string L.s, .string L.t, .slice Ap np cp, .slice Ai ni ci, .int .i64 L.code, .bool L.yes, .string L.body] ∧ HasLps W W.heap.size Ap np L.ps ∧ HasLis W W.heap.size Ai ni L.is ∧ (np ≤ maxLen ∧ ni ≤ maxLen) ∧ (∀ s ∈ L.txts, s.size ≤ 140737488355328) ∧ (∀ p ∈ L.ps, p.k.size ≤ 140737488355328 ∧ p.v.size ≤ 140737488355328) ∧ (∀ p ∈ L.is, p.e.size ≤ 140737488355328) := by
  have hR : reachBytes ≤ 140737488355328 := Nat.le_of_lt reachBytes_lt
  obtain ⟨xs, n1, _, hx, _, u4, hg⟩ := DataW.trod_struct Try.underlying26 h
  have hzi : ∀ k ∈ DataW.weightsEach Try.prog [3, 3, 3, 3, 3, 3, 3, 9, 9, 22, 23, 24, 4, 9] (xs.map (·.1)), k ≤ reachBytes := fun k hk => hz k (by
    rw [hx]
    simpa [DataW.weights, Try.underlying26] using hk)
  have hpl : ∀ y ∈ xs, ∀ b ∈ y.2, b.block < W.heap.size := fun y hy b hb => hlt b (by rw [hx]; exact List.mem_flatMap.2 ⟨y, hy, hb⟩)
  have hxl : xs.length = 14 := u4
  obtain ⟨a0, a1, a2, a3, a4, a5, a6, a7, a8, a9, a10, a11, a12, a13, rfl⟩ : ∃ a0 a1 a2 a3 a4 a5 a6 a7 a8 a9 a10 a11 a12 a13, cs = [a0, a1, a2, a3, a4, a5, a6, a7, a8, a9, a10, a11, a12, a13] := by
    match cs, hl with
    | [a0, a1, a2, a3, a4, a5, a6, a7, a8, a9, a10, a11, a12, a13], _ => exact ⟨a0, a1, a2, a3, a4, a5, a6, a7, a8, a9, a10, a11, a12, a13, rfl⟩
  obtain ⟨y0, y1, y2, y3, y4, y5, y6, y7, y8, y9, y10, y11, y12, y13, rfl⟩ : ∃ y0 y1 y2 y3 y4 y5 y6 y7 y8 y9 y10 y11 y12 y13, xs = [y0, y1, y2, y3, y4, y5, y6, y7, y8, y9, y10, y11, y12, y13] := by
    match xs, hxl with
    | [a0, a1, a2, a3, a4, a5, a6, a7, a8, a9, a10, a11, a12, a13], _ => exact ⟨a0, a1, a2, a3, a4, a5, a6, a7, a8, a9, a10, a11, a12, a13, rfl⟩
  have g0 : DataW.trod enc Try.prog W 0 (fun _ => true) true n1 3 [a0] = some y0 := by
    have g : DataW.trod enc Try.prog W 0 (fun _ => true) true n1 3 (List.take (Try.prog.cellsOf 3) (List.drop 0 [a0, a1, a2, a3, a4, a5, a6, a7, a8, a9, a10, a11, a12, a13])) = some y0 := hg 0 _ rfl
    rw [cl_int] at g
    exact g
  have g1 : DataW.trod enc Try.prog W 0 (fun _ => true) true n1 3 [a1] = some y1 := by
    have g : DataW.trod enc Try.prog W 0 (fun _ => true) true n1 3 (List.take (Try.prog.cellsOf 3) (List.drop 1 [a0, a1, a2, a3, a4, a5, a6, a7, a8, a9, a10, a11, a12, a13])) = some y1 := hg 1 _ rfl
    rw [cl_int] at g
    exact g
  have g2 : DataW.trod enc Try.prog W 0 (fun _ => true) true n1 3 [a2] = some y2 := by
    have g : DataW.trod enc Try.prog W 0 (fun _ => true) true n1 3 (List.take (Try.prog.cellsOf 3) (List.drop 2 [a0, a1, a2, a3, a4, a5, a6, a7, a8, a9, a10, a11, a12, a13])) = some y2 := hg 2 _ rfl
    rw [cl_int] at g
    exact g
  have g3 : DataW.trod enc Try.prog W 0 (fun _ => true) true n1 3 [a3] = some y3 := by
    have g : DataW.trod enc Try.prog W 0 (fun _ => true) true n1 3 (List.take (Try.prog.cellsOf 3) (List.drop 3 [a0, a1, a2, a3, a4, a5, a6, a7, a8, a9, a10, a11, a12, a13])) = some y3 := hg 3 _ rfl
    rw [cl_int] at g
    exact g
  have g4 : DataW.trod enc Try.prog W 0 (fun _ => true) true n1 3 [a4] = some y4 := by
    have g : DataW.trod enc Try.prog W 0 (fun _ => true) true n1 3 (List.take (Try.prog.cellsOf 3) (List.drop 4 [a0, a1, a2, a3, a4, a5, a6, a7, a8, a9, a10, a11, a12, a13])) = some y4 := hg 4 _ rfl
    rw [cl_int] at g
    exact g
  have g5 : DataW.trod enc Try.prog W 0 (fun _ => true) true n1 3 [a5] = some y5 := by
    have g : DataW.trod enc Try.prog W 0 (fun _ => true) true n1 3 (List.take (Try.prog.cellsOf 3) (List.drop 5 [a0, a1, a2, a3, a4, a5, a6, a7, a8, a9, a10, a11, a12, a13])) = some y5 := hg 5 _ rfl
    rw [cl_int] at g
    exact g
  have g6 : DataW.trod enc Try.prog W 0 (fun _ => true) true n1 3 [a6] = some y6 := by
    have g : DataW.trod enc Try.prog W 0 (fun _ => true) true n1 3 (List.take (Try.prog.cellsOf 3) (List.drop 6 [a0, a1, a2, a3, a4, a5, a6, a7, a8, a9, a10, a11, a12, a13])) = some y6 := hg 6 _ rfl
    rw [cl_int] at g
    exact g
  have g7 : DataW.trod enc Try.prog W 0 (fun _ => true) true n1 9 [a7] = some y7 := by
    have g : DataW.trod enc Try.prog W 0 (fun _ => true) true n1 9 (List.take (Try.prog.cellsOf 9) (List.drop 7 [a0, a1, a2, a3, a4, a5, a6, a7, a8, a9, a10, a11, a12, a13])) = some y7 := hg 7 _ rfl
    rw [cl_string] at g
    exact g
  have g8 : DataW.trod enc Try.prog W 0 (fun _ => true) true n1 9 [a8] = some y8 := by
    have g : DataW.trod enc Try.prog W 0 (fun _ => true) true n1 9 (List.take (Try.prog.cellsOf 9) (List.drop 8 [a0, a1, a2, a3, a4, a5, a6, a7, a8, a9, a10, a11, a12, a13])) = some y8 := hg 8 _ rfl
    rw [cl_string] at g
    exact g
  have g9 : DataW.trod enc Try.prog W 0 (fun _ => true) true n1 22 [a9] = some y9 := by
    have g : DataW.trod enc Try.prog W 0 (fun _ => true) true n1 22 (List.take (Try.prog.cellsOf 22) (List.drop 9 [a0, a1, a2, a3, a4, a5, a6, a7, a8, a9, a10, a11, a12, a13])) = some y9 := hg 9 _ rfl
    rw [cl_prs] at g
    exact g
  have g10 : DataW.trod enc Try.prog W 0 (fun _ => true) true n1 23 [a10] = some y10 := by
    have g : DataW.trod enc Try.prog W 0 (fun _ => true) true n1 23 (List.take (Try.prog.cellsOf 23) (List.drop 10 [a0, a1, a2, a3, a4, a5, a6, a7, a8, a9, a10, a11, a12, a13])) = some y10 := hg 10 _ rfl
    rw [cl_its] at g
    exact g
  have g11 : DataW.trod enc Try.prog W 0 (fun _ => true) true n1 24 [a11] = some y11 := by
    have g : DataW.trod enc Try.prog W 0 (fun _ => true) true n1 24 (List.take (Try.prog.cellsOf 24) (List.drop 11 [a0, a1, a2, a3, a4, a5, a6, a7, a8, a9, a10, a11, a12, a13])) = some y11 := hg 11 _ rfl
    rw [cl_err] at g
    exact g
  have g12 : DataW.trod enc Try.prog W 0 (fun _ => true) true n1 4 [a12] = some y12 := by
    have g : DataW.trod enc Try.prog W 0 (fun _ => true) true n1 4 (List.take (Try.prog.cellsOf 4) (List.drop 12 [a0, a1, a2, a3, a4, a5, a6, a7, a8, a9, a10, a11, a12, a13])) = some y12 := hg 12 _ rfl
    rw [cl_bool] at g
    exact g
  have g13 : DataW.trod enc Try.prog W 0 (fun _ => true) true n1 9 [a13] = some y13 := by
    have g : DataW.trod enc Try.prog W 0 (fun _ => true) true n1 9 (List.take (Try.prog.cellsOf 9) (List.drop 13 [a0, a1, a2, a3, a4, a5, a6, a7, a8, a9, a10, a11, a12, a13])) = some y13 := hg 13 _ rfl
    rw [cl_string] at g
    exact g
  clear hg hx h hz hlt
  obtain ⟨z0, e0, _, _⟩ := DataW.trod_int Try.underlying3 g0
  simp at e0
  subst e0
  obtain ⟨z1, e1, _, _⟩ := DataW.trod_int Try.underlying3 g1
  simp at e1
  subst e1
  obtain ⟨z2, e2, _, _⟩ := DataW.trod_int Try.underlying3 g2
  simp at e2
  subst e2
  obtain ⟨z3, e3, _, _⟩ := DataW.trod_int Try.underlying3 g3
  simp at e3
  subst e3
  obtain ⟨z4, e4, _, _⟩ := DataW.trod_int Try.underlying3 g4
  simp at e4
  subst e4
  obtain ⟨z5, e5, _, _⟩ := DataW.trod_int Try.underlying3 g5
  simp at e5
  subst e5
  obtain ⟨z6, e6, _, _⟩ := DataW.trod_int Try.underlying3 g6
  simp at e6
  subst e6
  obtain ⟨z7, e7, q7, _⟩ := DataW.trod_string Try.underlying9 g7
  simp at e7
  subst e7
  have s7 : z7.size ≤ reachBytes := by have := wt_str (j := 7) (bytes := z7.data.toList) rfl (by rw [show ([y0, y1, y2, y3, y4, y5, y6, y7, y8, y9, y10, y11, y12, y13].map (·.1))[7]? = some y7.1 from rfl, q7]) hzi; simpa using this
  obtain ⟨z8, e8, q8, _⟩ := DataW.trod_string Try.underlying9 g8
  simp at e8
  subst e8
  have s8 : z8.size ≤ reachBytes := by have := wt_str (j := 8) (bytes := z8.data.toList) rfl (by rw [show ([y0, y1, y2, y3, y4, y5, y6, y7, y8, y9, y10, y11, y12, y13].map (·.1))[8]? = some y8.1 from rfl, q8]) hzi; simpa using this
  obtain ⟨Ap, np, cp, lp, e9, lep, mp, rp, sp⟩ := lps_of_trod Try.underlying22 Try.underlying38 (by kernel_rfl) ⟨rfl, rfl⟩ ⟨by kernel_rfl, by kernel_rfl⟩ ⟨by kernel_rfl, by kernel_rfl⟩ g9 (fun k hk => hzi k (DataW.weights_mem_each (j := 9) (d := y9.1) rfl rfl k hk)) (hpl y9 (by simp))
  subst e9
  obtain ⟨Ai, ni, ci, li, e10, lei, mi, ri, si⟩ := lis_of_trod Try.underlying23 Try.underlying40 (by kernel_rfl) ⟨rfl, rfl, rfl⟩ ⟨by kernel_rfl, by kernel_rfl, by kernel_rfl⟩ ⟨by kernel_rfl, by kernel_rfl, by kernel_rfl⟩ g10 (fun k hk => hzi k (DataW.weights_mem_each (j := 10) (d := y10.1) rfl rfl k hk)) (hpl y10 (by simp))
  subst e10
  obtain ⟨z11, e11, _, _⟩ := DataW.trod_int Try.underlying24 g11
  simp at e11
  subst e11
  obtain ⟨z12, e12, _⟩ := DataW.trod_bool Try.underlying4 g12
  simp at e12
  subst e12
  obtain ⟨z13, e13, q13, _⟩ := DataW.trod_string Try.underlying9 g13
  simp at e13
  subst e13
  have s13 : z13.size ≤ reachBytes := by have := wt_str (j := 13) (bytes := z13.data.toList) rfl (by rw [show ([y0, y1, y2, y3, y4, y5, y6, y7, y8, y9, y10, y11, y12, y13].map (·.1))[13]? = some y13.1 from rfl, q13]) hzi; simpa using this
  refine ⟨⟨z0, z1, z2, z3, z4, z5, z6, z7, z8, lp, li, z11, z12, z13⟩, Ap, np, cp, Ai, ni, ci, rfl, rp, ri, ⟨Nat.le_trans lep mp, Nat.le_trans lei mi⟩, fun s hs => ?_, fun p hp => ⟨Nat.le_trans (sp p hp).1 hR, Nat.le_trans (sp p hp).2 hR⟩, fun p hp => Nat.le_trans (si p hp) hR⟩
  simp only [Let.txts, List.mem_cons, List.not_mem_nil, or_false] at hs
  rcases hs with rfl | rfl | rfl
  · exact Nat.le_trans s7 hR
  · exact Nat.le_trans s8 hR
  · exact Nat.le_trans s13 hR
set_option maxRecDepth 100000 in
theorem open_letter {r : Reach} {base : Nat} {v : Value} {d : DataW H} {ps : List MemPlace} (hval : Value.okWide Try.prog W r base 26 v) (h : DataW.Trod enc Try.prog W 0 (fun _ => true) true 26 v d ps) (hz : ∀ k ∈ d.weights Try.prog 26, k ≤ reachBytes) (hlt : ∀ x ∈ ps, x.block < W.heap.size) :
    ∃ (L : Let) (Ap : Option Addr) (np cp : Nat) (Ai : Option Addr) (ni ci : Nat), v = .agg #[.int .i64 L.kind, .int .i64 L.frm, .int .i64 L.to, .int .i64 L.a, .int .i64 L.b, .int .i64 L.c, .int .i64 L.d, .string L.s, .string L.t, .slice Ap np cp, .slice Ai ni ci, .int .i64 L.code, .bool L.yes, .string L.body] ∧ HasLps W W.heap.size Ap np L.ps ∧ HasLis W W.heap.size Ai ni L.is ∧ (np ≤ maxLen ∧ ni ≤ maxLen) ∧ (∀ s ∈ L.txts, s.size ≤ 140737488355328) ∧ (∀ p ∈ L.ps, p.k.size ≤ 140737488355328 ∧ p.v.size ≤ 140737488355328) ∧ (∀ p ∈ L.is, p.e.size ≤ 140737488355328) := by
  obtain ⟨cs, rfl, hsz⟩ := okWide_struct Try.underlying26 hval
  obtain ⟨fuel, hf⟩ := h
  obtain ⟨L, Ap, np, cp, Ai, ni, ci, e, h1⟩ := let_cells_of (cs := cs.toList) (by rw [Array.length_toList, hsz]; kernel_rfl) hf hz hlt
  have e2 : cs = #[.int .i64 L.kind, .int .i64 L.frm, .int .i64 L.to, .int .i64 L.a, .int .i64 L.b, .int .i64 L.c, .int .i64 L.d, .string L.s, .string L.t, .slice Ap np cp, .slice Ai ni ci, .int .i64 L.code, .bool L.yes, .string L.body] := Array.ext' e
  subst e2
  exact ⟨L, Ap, np, cp, Ai, ni, ci, rfl, h1⟩
end
end Go.Proofs.Ytabcoidjbigdbaa

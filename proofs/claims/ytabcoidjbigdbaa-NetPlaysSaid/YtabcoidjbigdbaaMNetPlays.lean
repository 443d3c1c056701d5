/- NetPlays: whatever is sent, delivered, lost and doubled, each call answers what the document says. Condition: texts shorter than 2^47 bytes. -/
import Derived.Test.YtabcoidjbigdbaaLetA
import Derived.Test.YtabcoidjbigdbaaOpen
import Derived.Deep.Slices
import Derived.OpenShut
import Derived.SizedLaws
import Derived.Test.YtabcoidjbigdbaaLetIn
import Derived.Test.YtabcoidjbigdbaaMNpB
import Derived.Test.YtabcoidjbigdbaaRegion
import Derived.Test.YtabcoidjbigdbaaLetP
import Derived.Test.YtabcoidjbigdbaaRow
import Derived.Deep.DeepCutAuto
import Derived.Deep.CutBlock
import Derived.Deep.RegionHeld3
import Derived.BigQuiet
namespace Go.Proofs.Ytabcoidjbigdbaa
open Go.ChangeShapes Go.WideShapes Go.ChangeAt Go.RowKit

instance : Inhabited LPr := ⟨⟨⟨#[]⟩, ⟨#[]⟩⟩⟩
instance : Inhabited LIt := ⟨⟨⟨#[]⟩, 0, false⟩⟩
section
variable {H : Type} {enc : TypeId × Value → H} {P : Program} {W : World}
theorem wt_all {e : TypeId} {d : DataW H} {k : Nat} : ∀ {l : List (DataW H)}, d ∈ l → k ∈ d.weights P e → k ∈ DataW.weightsAll P e l
  | y :: l, h, hk => by
    simp only [DataW.weightsAll, List.mem_append]
    rcases List.mem_cons.1 h with rfl | h
    · exact .inl hk
    · exact .inr (wt_all h hk)
theorem wt_str {ts : List TypeId} {ds : List (DataW H)} {j R : Nat} {t : TypeId} {bytes : List UInt8} (ht : ts[j]? = some t) (hd : ds[j]? = some (.lit (.string bytes))) (hz : ∀ k ∈ DataW.weightsEach P ts ds, k ≤ R) : bytes.length ≤ R :=
  hz _ (DataW.weights_mem_each ht hd _ (by simp [DataW.weights]))
theorem lps_of_trod {t e : TypeId} {f0 f1 : Field} {fuel : Nat} {v : Value} {x : DataW H × List MemPlace} (ht : P.underlying t = some (.slice e)) (he : P.underlying e = some (.struct #[f0, f1])) (hC : P.cellsOf e = 2)
    (ho : f0.offset = 0 ∧ f1.offset = 1) (hc : P.cellsOf f0.type = 1 ∧ P.cellsOf f1.type = 1) (hu : P.underlying f0.type = some .string ∧ P.underlying f1.type = some .string)
    (hf : DataW.trod enc P W 0 (fun _ => true) true fuel t [v] = some x) (hz : ∀ k ∈ x.1.weights P t, k ≤ reachBytes) (hlt : ∀ y ∈ x.2, y.block < W.heap.size) :
    ∃ (A : Option Addr) (n c : Nat) (l : List LPr), v = .slice A n c ∧ n ≤ c ∧ c ≤ maxLen ∧ HasLps W W.heap.size A n l ∧ ∀ u ∈ l, u.k.size ≤ reachBytes ∧ u.v.size ≤ reachBytes := by
  rcases Go.Deep.open_slice ht hf with ⟨hcs, _⟩ | ⟨a, n, c, m, n', D, Pl, hcs, _, hle, hmax, hm, hx, hi⟩
  · simp at hcs
    subst hcs
    exact ⟨none, 0, 0, [], rfl, Nat.le_refl _, by simp [maxLen], HasLps.nil _ _ _, by simp⟩
  · simp at hcs
    subst hcs
    simp only [if_true] at hm
    have hm2 := hm.symm
    subst hm2
    have hone : ∀ i, i < n → ∃ u : LPr, (W.cell? (a.add (i * 2)) = some (.string u.k) ∧ W.cell? (a.add (i * 2 + 1)) = some (.string u.v)) ∧ (u.k.size ≤ reachBytes ∧ u.v.size ≤ reachBytes) := by
      intro i hin
      obtain ⟨cs', hcells, htrod⟩ := hi i (by omega)
      rw [hC] at hcells
      obtain ⟨_, hlen, hat⟩ := World.cells?_some hcells
      obtain ⟨xs, n1, _, hxe, _, _, hg⟩ := DataW.trod_struct he htrod
      have hzi : ∀ k ∈ DataW.weightsEach P [f0.type, f1.type] (xs.map (·.1)), k ≤ reachBytes := fun k hk => hz k (by
        rw [hx]
        simp only [DataW.weights, ht]
        refine List.mem_cons_of_mem _ (List.mem_append_left _ (wt_all (d := D i) (List.mem_map.2 ⟨i, List.mem_range.2 hin, rfl⟩) ?_))
        have hDi : D i = .agg (xs.map (·.1)) := congrArg Prod.fst hxe
        rw [hDi]
        simpa [DataW.weights, he] using hk)
      match cs', hlen with
      | [w0, w1], _ =>
        have g0 := hg 0 f0 rfl
        have g1 := hg 1 f1 rfl
        rw [ho.1, hc.1] at g0
        rw [ho.2, hc.2] at g1
        have hxs : xs.length = 2 := by assumption
        obtain ⟨y0, y1, rfl⟩ : ∃ y0 y1, xs = [y0, y1] := by
          match xs, hxs with
          | [a0, a1], _ => exact ⟨a0, a1, rfl⟩
        · skip
          obtain ⟨z0, e0, q0, _⟩ := DataW.trod_string hu.1 g0
          obtain ⟨z1, e1, q1, _⟩ := DataW.trod_string hu.2 g1
          simp at e0 e1
          subst e0
          subst e1
          have c0 := hat 0 (by omega)
          have c1 := hat 1 (by omega)
          rw [Go.Deep.add_add] at c0 c1
          have s0 : z0.size ≤ reachBytes := by have := wt_str (j := 0) (bytes := z0.data.toList) rfl (by rw [show ([y0, y1].map (·.1))[0]? = some y0.1 from rfl, q0]) hzi; simpa using this
          have s1 : z1.size ≤ reachBytes := by have := wt_str (j := 1) (bytes := z1.data.toList) rfl (by rw [show ([y0, y1].map (·.1))[1]? = some y1.1 from rfl, q1]) hzi; simpa using this
          exact ⟨⟨z0, z1⟩, ⟨c0, c1⟩, ⟨s0, s1⟩⟩
    obtain ⟨f, hfv⟩ := Go.Deep.choose_lt hone
    refine ⟨some a, n, c, (List.range n).map f, rfl, hle, hmax, ⟨by simp, ?_⟩, fun u hu' => ?_⟩
    · refine ⟨by rw [lpCells_len]; simp, fun k u hu' => ⟨a, rfl, ?_, ?_⟩⟩
      · obtain ⟨p, hp, hpb⟩ := row_block (a := a) (n := c * P.cellsOf e) (by
          have := (List.getElem?_eq_some_iff.1 hu').1
          rw [lpCells_len] at this
          simp at this
          rw [hC]; omega)
        rw [← hpb]
        refine hlt p ?_
        rw [hx]
        exact List.mem_append_left _ hp
      · have hk := (List.getElem?_eq_some_iff.1 hu').1
        rw [lpCells_len] at hk
        simp at hk
        have hin : k / 2 < n := by omega
        have hgi : ((List.range n).map f)[k / 2]? = some (f (k / 2)) := by simp [hin]
        obtain ⟨c0, c1⟩ := lpCells_at _ _ _ hgi
        obtain ⟨⟨d0, d1⟩, -⟩ := hfv (k / 2) hin
        have hcase : k = k / 2 * 2 ∨ k = k / 2 * 2 + 1 := by omega
        rcases hcase with e | e
        · rw [e, c0] at hu'; rw [e, d0, ← hu']
        · rw [e, c1] at hu'; rw [e, d1, ← hu']
    · obtain ⟨i, hin, rfl⟩ := List.mem_map.1 hu'
      exact (hfv i (List.mem_range.1 hin)).2
theorem lis_of_trod {t e : TypeId} {f0 f1 f2 : Field} {fuel : Nat} {v : Value} {x : DataW H × List MemPlace} (ht : P.underlying t = some (.slice e)) (he : P.underlying e = some (.struct #[f0, f1, f2])) (hC : P.cellsOf e = 3)
    (ho : f0.offset = 0 ∧ f1.offset = 1 ∧ f2.offset = 2) (hc : P.cellsOf f0.type = 1 ∧ P.cellsOf f1.type = 1 ∧ P.cellsOf f2.type = 1) (hu : P.underlying f0.type = some .string ∧ P.underlying f1.type = some (.int .i64) ∧ P.underlying f2.type = some .bool)
    (hf : DataW.trod enc P W 0 (fun _ => true) true fuel t [v] = some x) (hz : ∀ k ∈ x.1.weights P t, k ≤ reachBytes) (hlt : ∀ y ∈ x.2, y.block < W.heap.size) :
    ∃ (A : Option Addr) (n c : Nat) (l : List LIt), v = .slice A n c ∧ n ≤ c ∧ c ≤ maxLen ∧ HasLis W W.heap.size A n l ∧ ∀ u ∈ l, u.e.size ≤ reachBytes := by
  rcases Go.Deep.open_slice ht hf with ⟨hcs, _⟩ | ⟨a, n, c, m, n', D, Pl, hcs, _, hle, hmax, hm, hx, hi⟩
  · simp at hcs
    subst hcs
    exact ⟨none, 0, 0, [], rfl, Nat.le_refl _, by simp [maxLen], HasLis.nil _ _ _, by simp⟩
  · simp at hcs
    subst hcs
    simp only [if_true] at hm
    have hm2 := hm.symm
    subst hm2
    have hone : ∀ i, i < n → ∃ u : LIt, (W.cell? (a.add (i * 3)) = some (.string u.e) ∧ W.cell? (a.add (i * 3 + 1)) = some (.int .i64 u.v) ∧ W.cell? (a.add (i * 3 + 2)) = some (.bool u.g)) ∧ (u.e.size ≤ reachBytes) := by
      intro i hin
      obtain ⟨cs', hcells, htrod⟩ := hi i (by omega)
      rw [hC] at hcells
      obtain ⟨_, hlen, hat⟩ := World.cells?_some hcells
      obtain ⟨xs, n1, _, hxe, _, _, hg⟩ := DataW.trod_struct he htrod
      have hzi : ∀ k ∈ DataW.weightsEach P [f0.type, f1.type, f2.type] (xs.map (·.1)), k ≤ reachBytes := fun k hk => hz k (by
        rw [hx]
        simp only [DataW.weights, ht]
        refine List.mem_cons_of_mem _ (List.mem_append_left _ (wt_all (d := D i) (List.mem_map.2 ⟨i, List.mem_range.2 hin, rfl⟩) ?_))
        have hDi : D i = .agg (xs.map (·.1)) := congrArg Prod.fst hxe
        rw [hDi]
        simpa [DataW.weights, he] using hk)
      match cs', hlen with
      | [w0, w1, w2], _ =>
        have g0 := hg 0 f0 rfl
        have g1 := hg 1 f1 rfl
        have g2 := hg 2 f2 rfl
        rw [ho.1, hc.1] at g0
        rw [ho.2.1, hc.2.1] at g1
        rw [ho.2.2, hc.2.2] at g2
        have hxs : xs.length = 3 := by assumption
        obtain ⟨y0, y1, y2, rfl⟩ : ∃ y0 y1 y2, xs = [y0, y1, y2] := by
          match xs, hxs with
          | [a0, a1, a2], _ => exact ⟨a0, a1, a2, rfl⟩
        · skip
          obtain ⟨z0, e0, q0, _⟩ := DataW.trod_string hu.1 g0
          obtain ⟨z1, e1, _, _⟩ := DataW.trod_int hu.2.1 g1
          obtain ⟨z2, e2, _⟩ := DataW.trod_bool hu.2.2 g2
          simp at e0 e1 e2
          subst e0
          subst e1
          subst e2
          have c0 := hat 0 (by omega)
          have c1 := hat 1 (by omega)
          have c2 := hat 2 (by omega)
          rw [Go.Deep.add_add] at c0 c1 c2
          have s0 : z0.size ≤ reachBytes := by have := wt_str (j := 0) (bytes := z0.data.toList) rfl (by rw [show ([y0, y1, y2].map (·.1))[0]? = some y0.1 from rfl, q0]) hzi; simpa using this
          exact ⟨⟨z0, z1, z2⟩, ⟨c0, c1, c2⟩, s0⟩
    obtain ⟨f, hfv⟩ := Go.Deep.choose_lt hone
    refine ⟨some a, n, c, (List.range n).map f, rfl, hle, hmax, ⟨by simp, ?_⟩, fun u hu' => ?_⟩
    · refine ⟨by rw [liCells_len]; simp, fun k u hu' => ⟨a, rfl, ?_, ?_⟩⟩
      · obtain ⟨p, hp, hpb⟩ := row_block (a := a) (n := c * P.cellsOf e) (by
          have := (List.getElem?_eq_some_iff.1 hu').1
          rw [liCells_len] at this
          simp at this
          rw [hC]; omega)
        rw [← hpb]
        refine hlt p ?_
        rw [hx]
        exact List.mem_append_left _ hp
      · have hk := (List.getElem?_eq_some_iff.1 hu').1
        rw [liCells_len] at hk
        simp at hk
        have hin : k / 3 < n := by omega
        have hgi : ((List.range n).map f)[k / 3]? = some (f (k / 3)) := by simp [hin]
        obtain ⟨c0, c1, c2⟩ := liCells_at _ _ _ hgi
        obtain ⟨⟨d0, d1, d2⟩, -⟩ := hfv (k / 3) hin
        have hcase : k = k / 3 * 3 ∨ k = k / 3 * 3 + 1 ∨ k = k / 3 * 3 + 2 := by omega
        rcases hcase with e | e | e
        · rw [e, c0] at hu'; rw [e, d0, ← hu']
        · rw [e, c1] at hu'; rw [e, d1, ← hu']
        · rw [e, c2] at hu'; rw [e, d2, ← hu']
    · obtain ⟨i, hin, rfl⟩ := List.mem_map.1 hu'
      exact (hfv i (List.mem_range.1 hin)).2
end
section
variable {H : Type} {enc : TypeId × Value → H} {W : World}
theorem cl_int : Try.prog.cellsOf 3 = 1 := by kernel_rfl
theorem cl_string : Try.prog.cellsOf 9 = 1 := by kernel_rfl
theorem cl_prs : Try.prog.cellsOf 22 = 1 := by kernel_rfl
theorem cl_its : Try.prog.cellsOf 23 = 1 := by kernel_rfl
theorem cl_err : Try.prog.cellsOf 24 = 1 := by kernel_rfl
theorem cl_bool : Try.prog.cellsOf 4 = 1 := by kernel_rfl
set_option maxRecDepth 100000 in
theorem let_cells_of {cs : List Value} {x : DataW H × List MemPlace} {fuel : Nat} (hl : cs.length = 14) (h : DataW.trod enc Try.prog W 0 (fun _ => true) true fuel 26 cs = some x) (hz : ∀ k ∈ x.1.weights Try.prog 26, k ≤ reachBytes) (hlt : ∀ y ∈ x.2, y.block < W.heap.size) :
    ∃ (L : Let) (Ap : Option Addr) (np cp : Nat) (Ai : Option Addr) (ni ci : Nat), cs = [.int .i64 L.kind, .int .i64 L.frm, .int .i64 L.to, .int .i64 L.a, .int .i64 L.b, .int .i64 L.c, .int .i64 L.d, .string L.s, .string L.t, .slice Ap np cp, .slice Ai ni ci, .int .i64 L.code, .bool L.yes, .string L.body] ∧ HasLps W W.heap.size Ap np L.ps ∧ HasLis W W.heap.size Ai ni L.is ∧ (np ≤ maxLen ∧ ni ≤ maxLen) ∧ (∀ s ∈ L.txts, s.size ≤ 140737488355328) ∧ (∀ p ∈ L.ps, p.k.size ≤ 140737488355328 ∧ p.v.size ≤ 140737488355328) ∧ (∀ p ∈ L.is, p.e.size ≤ 140737488355328) := by
  have hR : reachBytes ≤ 140737488355328 := Nat.le_of_lt reachBytes_lt
  obtain ⟨xs, n1, _, hx, _, u4, hg⟩ := DataW.trod_struct Try.underlying26 h
  have hzi : ∀ k ∈ DataW.weightsEach Try.prog [3, 3, 3, 3, 3, 3, 3, 9, 9, 22, 23, 24, 4, 9] (xs.map (·.1)), k ≤ reachBytes := fun k hk => hz k (by
    rw [hx]
    simpa [DataW.weights, Try.underlying26] using hk)
  have hpl : ∀ y ∈ xs, ∀ b ∈ y.2, b.block < W.heap.size := fun y hy b hb => hlt b (by rw [hx]; exact List.mem_flatMap.2 ⟨y, hy, hb⟩)
  have hxl : xs.length = 14 := u4
  obtain ⟨a0, a1, a2, a3, a4, a5, a6, a7, a8, a9, a10, a11, a12, a13, rfl⟩ : ∃ a0 a1 a2 a3 a4 a5 a6 a7 a8 a9 a10 a11 a12 a13, cs = [a0, a1, a2, a3, a4, a5, a6, a7, a8, a9, a10, a11, a12, a13] := by
    match cs, hl with
    | [a0, a1, a2, a3, a4, a5, a6, a7, a8, a9, a10, a11, a12, a13], _ => exact ⟨a0, a1, a2, a3, a4, a5, a6, a7, a8, a9, a10, a11, a12, a13, rfl⟩
  obtain ⟨y0, y1, y2, y3, y4, y5, y6, y7, y8, y9, y10, y11, y12, y13, rfl⟩ : ∃ y0 y1 y2 y3 y4 y5 y6 y7 y8 y9 y10 y11 y12 y13, xs = [y0, y1, y2, y3, y4, y5, y6, y7, y8, y9, y10, y11, y12, y13] := by
    match xs, hxl with
    | [a0, a1, a2, a3, a4, a5, a6, a7, a8, a9, a10, a11, a12, a13], _ => exact ⟨a0, a1, a2, a3, a4, a5, a6, a7, a8, a9, a10, a11, a12, a13, rfl⟩
  have g0 : DataW.trod enc Try.prog W 0 (fun _ => true) true n1 3 [a0] = some y0 := by
    have g : DataW.trod enc Try.prog W 0 (fun _ => true) true n1 3 (List.take (Try.prog.cellsOf 3) (List.drop 0 [a0, a1, a2, a3, a4, a5, a6, a7, a8, a9, a10, a11, a12, a13])) = some y0 := hg 0 _ rfl
    rw [cl_int] at g
    exact g
  have g1 : DataW.trod enc Try.prog W 0 (fun _ => true) true n1 3 [a1] = some y1 := by
    have g : DataW.trod enc Try.prog W 0 (fun _ => true) true n1 3 (List.take (Try.prog.cellsOf 3) (List.drop 1 [a0, a1, a2, a3, a4, a5, a6, a7, a8, a9, a10, a11, a12, a13])) = some y1 := hg 1 _ rfl
    rw [cl_int] at g
    exact g
  have g2 : DataW.trod enc Try.prog W 0 (fun _ => true) true n1 3 [a2] = some y2 := by
    have g : DataW.trod enc Try.prog W 0 (fun _ => true) true n1 3 (List.take (Try.prog.cellsOf 3) (List.drop 2 [a0, a1, a2, a3, a4, a5, a6, a7, a8, a9, a10, a11, a12, a13])) = some y2 := hg 2 _ rfl
    rw [cl_int] at g
    exact g
  have g3 : DataW.trod enc Try.prog W 0 (fun _ => true) true n1 3 [a3] = some y3 := by
    have g : DataW.trod enc Try.prog W 0 (fun _ => true) true n1 3 (List.take (Try.prog.cellsOf 3) (List.drop 3 [a0, a1, a2, a3, a4, a5, a6, a7, a8, a9, a10, a11, a12, a13])) = some y3 := hg 3 _ rfl
    rw [cl_int] at g
    exact g
  have g4 : DataW.trod enc Try.prog W 0 (fun _ => true) true n1 3 [a4] = some y4 := by
    have g : DataW.trod enc Try.prog W 0 (fun _ => true) true n1 3 (List.take (Try.prog.cellsOf 3) (List.drop 4 [a0, a1, a2, a3, a4, a5, a6, a7, a8, a9, a10, a11, a12, a13])) = some y4 := hg 4 _ rfl
    rw [cl_int] at g
    exact g
  have g5 : DataW.trod enc Try.prog W 0 (fun _ => true) true n1 3 [a5] = some y5 := by
    have g : DataW.trod enc Try.prog W 0 (fun _ => true) true n1 3 (List.take (Try.prog.cellsOf 3) (List.drop 5 [a0, a1, a2, a3, a4, a5, a6, a7, a8, a9, a10, a11, a12, a13])) = some y5 := hg 5 _ rfl
    rw [cl_int] at g
    exact g
  have g6 : DataW.trod enc Try.prog W 0 (fun _ => true) true n1 3 [a6] = some y6 := by
    have g : DataW.trod enc Try.prog W 0 (fun _ => true) true n1 3 (List.take (Try.prog.cellsOf 3) (List.drop 6 [a0, a1, a2, a3, a4, a5, a6, a7, a8, a9, a10, a11, a12, a13])) = some y6 := hg 6 _ rfl
    rw [cl_int] at g
    exact g
  have g7 : DataW.trod enc Try.prog W 0 (fun _ => true) true n1 9 [a7] = some y7 := by
    have g : DataW.trod enc Try.prog W 0 (fun _ => true) true n1 9 (List.take (Try.prog.cellsOf 9) (List.drop 7 [a0, a1, a2, a3, a4, a5, a6, a7, a8, a9, a10, a11, a12, a13])) = some y7 := hg 7 _ rfl
    rw [cl_string] at g
    exact g
  have g8 : DataW.trod enc Try.prog W 0 (fun _ => true) true n1 9 [a8] = some y8 := by
    have g : DataW.trod enc Try.prog W 0 (fun _ => true) true n1 9 (List.take (Try.prog.cellsOf 9) (List.drop 8 [a0, a1, a2, a3, a4, a5, a6, a7, a8, a9, a10, a11, a12, a13])) = some y8 := hg 8 _ rfl
    rw [cl_string] at g
    exact g
  have g9 : DataW.trod enc Try.prog W 0 (fun _ => true) true n1 22 [a9] = some y9 := by
    have g : DataW.trod enc Try.prog W 0 (fun _ => true) true n1 22 (List.take (Try.prog.cellsOf 22) (List.drop 9 [a0, a1, a2, a3, a4, a5, a6, a7, a8, a9, a10, a11, a12, a13])) = some y9 := hg 9 _ rfl
    rw [cl_prs] at g
    exact g
  have g10 : DataW.trod enc Try.prog W 0 (fun _ => true) true n1 23 [a10] = some y10 := by
    have g : DataW.trod enc Try.prog W 0 (fun _ => true) true n1 23 (List.take (Try.prog.cellsOf 23) (List.drop 10 [a0, a1, a2, a3, a4, a5, a6, a7, a8, a9, a10, a11, a12, a13])) = some y10 := hg 10 _ rfl
    rw [cl_its] at g
    exact g
  have g11 : DataW.trod enc Try.prog W 0 (fun _ => true) true n1 24 [a11] = some y11 := by
    have g : DataW.trod enc Try.prog W 0 (fun _ => true) true n1 24 (List.take (Try.prog.cellsOf 24) (List.drop 11 [a0, a1, a2, a3, a4, a5, a6, a7, a8, a9, a10, a11, a12, a13])) = some y11 := hg 11 _ rfl
    rw [cl_err] at g
    exact g
  have g12 : DataW.trod enc Try.prog W 0 (fun _ => true) true n1 4 [a12] = some y12 := by
    have g : DataW.trod enc Try.prog W 0 (fun _ => true) true n1 4 (List.take (Try.prog.cellsOf 4) (List.drop 12 [a0, a1, a2, a3, a4, a5, a6, a7, a8, a9, a10, a11, a12, a13])) = some y12 := hg 12 _ rfl
    rw [cl_bool] at g
    exact g
  have g13 : DataW.trod enc Try.prog W 0 (fun _ => true) true n1 9 [a13] = some y13 := by
    have g : DataW.trod enc Try.prog W 0 (fun _ => true) true n1 9 (List.take (Try.prog.cellsOf 9) (List.drop 13 [a0, a1, a2, a3, a4, a5, a6, a7, a8, a9, a10, a11, a12, a13])) = some y13 := hg 13 _ rfl
    rw [cl_string] at g
    exact g
  clear hg hx h hz hlt
  obtain ⟨z0, e0, _, _⟩ := DataW.trod_int Try.underlying3 g0
  simp at e0
  subst e0
  obtain ⟨z1, e1, _, _⟩ := DataW.trod_int Try.underlying3 g1
  simp at e1
  subst e1
  obtain ⟨z2, e2, _, _⟩ := DataW.trod_int Try.underlying3 g2
  simp at e2
  subst e2
  obtain ⟨z3, e3, _, _⟩ := DataW.trod_int Try.underlying3 g3
  simp at e3
  subst e3
  obtain ⟨z4, e4, _, _⟩ := DataW.trod_int Try.underlying3 g4
  simp at e4
  subst e4
  obtain ⟨z5, e5, _, _⟩ := DataW.trod_int Try.underlying3 g5
  simp at e5
  subst e5
  obtain ⟨z6, e6, _, _⟩ := DataW.trod_int Try.underlying3 g6
  simp at e6
  subst e6
  obtain ⟨z7, e7, q7, _⟩ := DataW.trod_string Try.underlying9 g7
  simp at e7
  subst e7
  have s7 : z7.size ≤ reachBytes := by have := wt_str (j := 7) (bytes := z7.data.toList) rfl (by rw [show ([y0, y1, y2, y3, y4, y5, y6, y7, y8, y9, y10, y11, y12, y13].map (·.1))[7]? = some y7.1 from rfl, q7]) hzi; simpa using this
  obtain ⟨z8, e8, q8, _⟩ := DataW.trod_string Try.underlying9 g8
  simp at e8
  subst e8
  have s8 : z8.size ≤ reachBytes := by have := wt_str (j := 8) (bytes := z8.data.toList) rfl (by rw [show ([y0, y1, y2, y3, y4, y5, y6, y7, y8, y9, y10, y11, y12, y13].map (·.1))[8]? = some y8.1 from rfl, q8]) hzi; simpa using this
  obtain ⟨Ap, np, cp, lp, e9, lep, mp, rp, sp⟩ := lps_of_trod Try.underlying22 Try.underlying38 (by kernel_rfl) ⟨rfl, rfl⟩ ⟨by kernel_rfl, by kernel_rfl⟩ ⟨by kernel_rfl, by kernel_rfl⟩ g9 (fun k hk => hzi k (DataW.weights_mem_each (j := 9) (d := y9.1) rfl rfl k hk)) (hpl y9 (by simp))
  subst e9
  obtain ⟨Ai, ni, ci, li, e10, lei, mi, ri, si⟩ := lis_of_trod Try.underlying23 Try.underlying40 (by kernel_rfl) ⟨rfl, rfl, rfl⟩ ⟨by kernel_rfl, by kernel_rfl, by kernel_rfl⟩ ⟨by kernel_rfl, by kernel_rfl, by kernel_rfl⟩ g10 (fun k hk => hzi k (DataW.weights_mem_each (j := 10) (d := y10.1) rfl rfl k hk)) (hpl y10 (by simp))
  subst e10
  obtain ⟨z11, e11, _, _⟩ := DataW.trod_int Try.underlying24 g11
  simp at e11
  subst e11
  obtain ⟨z12, e12, _⟩ := DataW.trod_bool Try.underlying4 g12
  simp at e12
  subst e12
  obtain ⟨z13, e13, q13, _⟩ := DataW.trod_string Try.underlying9 g13
  simp at e13
  subst e13
  have s13 : z13.size ≤ reachBytes := by have := wt_str (j := 13) (bytes := z13.data.toList) rfl (by rw [show ([y0, y1, y2, y3, y4, y5, y6, y7, y8, y9, y10, y11, y12, y13].map (·.1))[13]? = some y13.1 from rfl, q13]) hzi; simpa using this
  refine ⟨⟨z0, z1, z2, z3, z4, z5, z6, z7, z8, lp, li, z11, z12, z13⟩, Ap, np, cp, Ai, ni, ci, rfl, rp, ri, ⟨Nat.le_trans lep mp, Nat.le_trans lei mi⟩, fun s hs => ?_, fun p hp => ⟨Nat.le_trans (sp p hp).1 hR, Nat.le_trans (sp p hp).2 hR⟩, fun p hp => Nat.le_trans (si p hp) hR⟩
  simp only [Let.txts, List.mem_cons, List.not_mem_nil, or_false] at hs
  rcases hs with rfl | rfl | rfl
  · exact Nat.le_trans s7 hR
  · exact Nat.le_trans s8 hR
  · exact Nat.le_trans s13 hR
set_option maxRecDepth 100000 in
theorem open_letter {r : Reach} {base : Nat} {v : Value} {d : DataW H} {ps : List MemPlace} (hval : Value.okWide Try.prog W r base 26 v) (h : DataW.Trod enc Try.prog W 0 (fun _ => true) true 26 v d ps) (hz : ∀ k ∈ d.weights Try.prog 26, k ≤ reachBytes) (hlt : ∀ x ∈ ps, x.block < W.heap.size) :
    ∃ (L : Let) (Ap : Option Addr) (np cp : Nat) (Ai : Option Addr) (ni ci : Nat), v = .agg #[.int .i64 L.kind, .int .i64 L.frm, .int .i64 L.to, .int .i64 L.a, .int .i64 L.b, .int .i64 L.c, .int .i64 L.d, .string L.s, .string L.t, .slice Ap np cp, .slice Ai ni ci, .int .i64 L.code, .bool L.yes, .string L.body] ∧ HasLps W W.heap.size Ap np L.ps ∧ HasLis W W.heap.size Ai ni L.is ∧ (np ≤ maxLen ∧ ni ≤ maxLen) ∧ (∀ s ∈ L.txts, s.size ≤ 140737488355328) ∧ (∀ p ∈ L.ps, p.k.size ≤ 140737488355328 ∧ p.v.size ≤ 140737488355328) ∧ (∀ p ∈ L.is, p.e.size ≤ 140737488355328) := by
  obtain ⟨cs, rfl, hsz⟩ := okWide_struct Try.underlying26 hval
  obtain ⟨fuel, hf⟩ := h
  obtain ⟨L, Ap, np, cp, Ai, ni, ci, e, h1⟩ := let_cells_of (cs := cs.toList) (by rw [Array.length_toList, hsz]; kernel_rfl) hf hz hlt
  have e2 : cs = #[.int .i64 L.kind, .int .i64 L.frm, .int .i64 L.to, .int .i64 L.a, .int .i64 L.b, .int .i64 L.c, .int .i64 L.d, .string L.s, .string L.t, .slice Ap np cp, .slice Ai ni ci, .int .i64 L.code, .bool L.yes, .string L.body] := Array.ext' e
  subst e2
  exact ⟨L, Ap, np, cp, Ai, ni, ci, rfl, h1⟩
end
end Go.Proofs.Ytabcoidjbigdbaa

namespace Go.Proofs.Ytabcoidjbigdbaa
open Go.ChangeShapes Go.WideShapes Go.ChangeAt Go.RowKit

structure ActN where
  k : Int
  L : Let
  Ap : Option Addr
  np : Nat
  cp : Nat
  Ai : Option Addr
  ni : Nat
  ci : Nat
  n : Int
instance : Inhabited ActN := ⟨⟨0, ⟨0, 0, 0, 0, 0, 0, 0, ⟨#[]⟩, ⟨#[]⟩, [], [], 0, false, ⟨#[]⟩⟩, none, 0, 0, none, 0, 0, 0⟩⟩
def ActN.cells (o : ActN) : List Value := [.int .i64 o.k, .int .i64 o.L.kind, .int .i64 o.L.frm, .int .i64 o.L.to, .int .i64 o.L.a, .int .i64 o.L.b, .int .i64 o.L.c, .int .i64 o.L.d, .string o.L.s, .string o.L.t, .slice o.Ap o.np o.cp, .slice o.Ai o.ni o.ci, .int .i64 o.L.code, .bool o.L.yes, .string o.L.body, .int .i64 o.n]
/-- n acts, from A on, in memory below block B -/
def HasActs (w : World) (B : Nat) (A : Option Addr) (n : Nat) (l : List ActN) : Prop :=
  l.length = n ∧ ∀ i o, l[i]? = some o → ∃ a : Addr, A = some a ∧ a.block < B ∧ (∀ j u, o.cells[j]? = some u → w.cell? ((a.add (i * 16)).add j) = some u) ∧ LetIn w B o.L o.Ap o.np o.Ai o.ni ∧ (Lit.int .i64 o.n).wf = true
theorem HasActs.belowOf {w w' : World} {B C n : Nat} {A : Option Addr} {l : List ActN} (h : HasActs w B A n l) (hb : Below C w w') (hC : B ≤ C) : HasActs w' B A n l :=
  ⟨h.1, fun i o ho => by
    obtain ⟨a, e, h1, h2, h3, h4⟩ := h.2 i o ho
    exact ⟨a, e, h1, fun j u hu => (hb.cell (by rw [addr_block, addr_block]; omega)).trans (h2 j u hu), h3.belowOf hb hC, h4⟩⟩
theorem act_step (a : Addr) (j : Nat) (hj : 0 < j) : a.add j = ⟨a.block, a.off + j, none⟩ := by
  unfold Addr.add
  rw [if_neg (by omega)]
theorem add_zero (a : Addr) : a.add 0 = a := by unfold Addr.add; rfl
theorem HasActs.at_ {w : World} {B n : Nat} {A : Option Addr} {l : List ActN} (h : HasActs w B A n l) {i : Nat} (hi : i < n) : ∃ (a : Addr) (o : ActN), A = some a ∧ a.block < B ∧ l[i]? = some o ∧ w.cell? (a.add (i * 16)) = some (.int .i64 o.k) ∧
    (∀ j u, [.int .i64 o.L.kind, .int .i64 o.L.frm, .int .i64 o.L.to, .int .i64 o.L.a, .int .i64 o.L.b, .int .i64 o.L.c, .int .i64 o.L.d, .string o.L.s, .string o.L.t, .slice o.Ap o.np o.cp, .slice o.Ai o.ni o.ci, .int .i64 o.L.code, .bool o.L.yes, .string o.L.body][j]? = some u → w.cell? ⟨(a.add (i * 16)).block, (a.add (i * 16)).off + (j + 1), none⟩ = some u) ∧ w.cell? ⟨(a.add (i * 16)).block, (a.add (i * 16)).off + 15, none⟩ = some (.int .i64 o.n) ∧
    LetIn w B o.L o.Ap o.np o.Ai o.ni ∧ (Lit.int .i64 o.n).wf = true := by
  have hil : i < l.length := by have := h.1; omega
  obtain ⟨a, e, h1, h2, h3, h4⟩ := h.2 i l[i] (List.getElem?_eq_getElem hil)
  refine ⟨a, _, e, h1, List.getElem?_eq_getElem hil, ?_, ?_, ?_, h3, h4⟩
  · have := h2 0 _ rfl
    rwa [add_zero] at this
  · intro j u hu
    have := h2 (j + 1) u (by
      have hj := (List.getElem?_eq_some_iff.1 hu).1
      unfold ActN.cells
      rw [List.getElem?_cons_succ, show ([.int .i64 l[i].L.kind, .int .i64 l[i].L.frm, .int .i64 l[i].L.to, .int .i64 l[i].L.a, .int .i64 l[i].L.b, .int .i64 l[i].L.c, .int .i64 l[i].L.d, .string l[i].L.s, .string l[i].L.t, .slice l[i].Ap l[i].np l[i].cp, .slice l[i].Ai l[i].ni l[i].ci, .int .i64 l[i].L.code, .bool l[i].L.yes, .string l[i].L.body, .int .i64 l[i].n] : List Value) = [.int .i64 l[i].L.kind, .int .i64 l[i].L.frm, .int .i64 l[i].L.to, .int .i64 l[i].L.a, .int .i64 l[i].L.b, .int .i64 l[i].L.c, .int .i64 l[i].L.d, .string l[i].L.s, .string l[i].L.t, .slice l[i].Ap l[i].np l[i].cp, .slice l[i].Ai l[i].ni l[i].ci, .int .i64 l[i].L.code, .bool l[i].L.yes, .string l[i].L.body] ++ [.int .i64 l[i].n] from rfl, List.getElem?_append_left hj]
      exact hu)
    rwa [act_step _ (j + 1) (by omega)] at this
  · have := h2 15 _ rfl
    rwa [act_step _ 15 (by omega)] at this
section
variable {H : Type} {enc : TypeId × Value → H} {W : World}
theorem cl_act : Try.prog.cellsOf 49 = 16 := by kernel_rfl
theorem cl_let : Try.prog.cellsOf 26 = 14 := by kernel_rfl
set_option maxRecDepth 100000 in
theorem open_actsN {r : Reach} {base : Nat} {v : Value} {d : DataW H} {ps : List MemPlace} (hval : Value.okWide Try.prog W r base 41 v) (h : DataW.Trod enc Try.prog W 0 (fun _ => true) true 41 v d ps) (hz : ∀ k ∈ d.weights Try.prog 41, k ≤ reachBytes) (hlt : ∀ x ∈ ps, x.block < W.heap.size) :
    ∃ (A : Option Addr) (n c : Nat) (l : List ActN), v = .slice A n c ∧ n ≤ c ∧ c ≤ maxLen ∧ HasActs W W.heap.size A n l := by
  obtain ⟨A, n, c, rfl⟩ := okWide_slice Try.underlying41 hval
  obtain ⟨fuel, hf⟩ := h
  rcases Go.Deep.open_slice Try.underlying41 hf with ⟨hcs, _⟩ | ⟨a, len, cap, m, n', D, Pl, hcs, _, hle, hmax, hm, hx, hi⟩
  · simp [Value.cells] at hcs
    obtain ⟨rfl, rfl, rfl⟩ := hcs
    exact ⟨none, 0, 0, [], rfl, Nat.le_refl _, by simp [maxLen], rfl, by simp⟩
  · simp [Value.cells] at hcs
    obtain ⟨rfl, rfl, rfl⟩ := hcs
    simp only [if_true] at hm
    have hm2 := hm.symm
    subst hm2
    simp only [Prod.mk.injEq] at hx
    have hone : ∀ i, i < n → ∃ o : ActN, (∀ j u, o.cells[j]? = some u → W.cell? ((a.add (i * 16)).add j) = some u) ∧ LetIn W W.heap.size o.L o.Ap o.np o.Ai o.ni ∧ (Lit.int .i64 o.n).wf = true := by
      intro i hin
      obtain ⟨cs', hcells, htrod⟩ := hi i (by omega)
      rw [cl_act] at hcells
      obtain ⟨_, hlen, hat⟩ := World.cells?_some hcells
      obtain ⟨xs, n1, _, hxe, _, hxl, hg⟩ := DataW.trod_struct Try.underlying49 htrod
      have hzi : ∀ k ∈ DataW.weightsEach Try.prog [3, 26, 3] (xs.map (·.1)), k ≤ reachBytes := fun k hk => hz k (by
        rw [hx.1]
        simp only [DataW.weights, Try.underlying41]
        refine List.mem_cons_of_mem _ (List.mem_append_left _ (wt_all (d := D i) (List.mem_map.2 ⟨i, List.mem_range.2 hin, rfl⟩) ?_))
        have hDi : D i = .agg (xs.map (·.1)) := congrArg Prod.fst hxe
        rw [hDi]
        simpa [DataW.weights, Try.underlying49] using hk)
      have hpl : ∀ y ∈ xs, ∀ b ∈ y.2, b.block < W.heap.size := fun y hy b hb => hlt b (by
        rw [hx.2]
        refine List.mem_append_right _ (List.mem_flatMap.2 ⟨i, List.mem_range.2 (by omega), ?_⟩)
        have hPi : Pl i = xs.flatMap (·.2) := congrArg Prod.snd hxe
        rw [hPi]
        exact List.mem_flatMap.2 ⟨y, hy, hb⟩)
      have hxs : xs.length = 3 := hxl
      have g0 := hg 0 _ rfl
      have g1 := hg 1 _ rfl
      have g2 := hg 2 _ rfl
      obtain ⟨y0, y1, y2, rfl⟩ : ∃ y0 y1 y2, xs = [y0, y1, y2] := by
        match xs, hxs with
        | [a0, a1, a2], _ => exact ⟨a0, a1, a2, rfl⟩
      obtain ⟨v0, vs, v2, hvs, rfl⟩ : ∃ v0 vs v2, vs.length = 14 ∧ cs' = v0 :: (vs ++ [v2]) := by
        match cs', hlen with
        | [w0, w1, w2, w3, w4, w5, w6, w7, w8, w9, w10, w11, w12, w13, w14, w15], _ => exact ⟨w0, [w1, w2, w3, w4, w5, w6, w7, w8, w9, w10, w11, w12, w13, w14], w15, rfl, rfl⟩
      have k0 : DataW.trod enc Try.prog W 0 (fun _ => true) true n1 3 [v0] = some y0 := by
        have g : DataW.trod enc Try.prog W 0 (fun _ => true) true n1 3 (List.take (Try.prog.cellsOf 3) (List.drop 0 (v0 :: (vs ++ [v2])))) = some y0 := g0
        rw [cl_int] at g
        exact g
      have k1 : DataW.trod enc Try.prog W 0 (fun _ => true) true n1 26 vs = some y1 := by
        have g : DataW.trod enc Try.prog W 0 (fun _ => true) true n1 26 (List.take (Try.prog.cellsOf 26) (List.drop 1 (v0 :: (vs ++ [v2])))) = some y1 := g1
        rw [cl_let, List.drop_succ_cons, List.drop_zero, List.take_append_of_le_length (by omega), List.take_of_length_le (by omega)] at g
        exact g
      have k2 : DataW.trod enc Try.prog W 0 (fun _ => true) true n1 3 [v2] = some y2 := by
        have g : DataW.trod enc Try.prog W 0 (fun _ => true) true n1 3 (List.take (Try.prog.cellsOf 3) (List.drop 15 (v0 :: (vs ++ [v2])))) = some y2 := g2
        rw [cl_int, List.drop_succ_cons, List.drop_append_of_le_length (by omega), List.drop_of_length_le (by omega)] at g
        exact g
      obtain ⟨z0, e0, _, _⟩ := DataW.trod_int Try.underlying3 k0
      obtain ⟨z2, e2, _, wf2⟩ := DataW.trod_int Try.underlying3 k2
      simp at e0 e2
      subst e0 e2
      obtain ⟨L, Ap, np, cp, Ai, ni, ci, e1, h1, h2, h3, h4, h5, h6⟩ := let_cells_of hvs k1 (fun k hk => hzi k (DataW.weights_mem_each (j := 1) (d := y1.1) rfl rfl k hk)) (hpl y1 (by simp))
      subst e1
      refine ⟨⟨z0, L, Ap, np, cp, Ai, ni, ci, z2⟩, fun j u hu => ?_, ⟨h1, h2, h3, h4, h5, h6⟩, wf2⟩
      have hj : j < 16 := (List.getElem?_eq_some_iff.1 hu).1
      rw [hat j hj]
      exact hu
    obtain ⟨f, hfv⟩ := Go.Deep.choose_lt hone
    refine ⟨some a, n, c, (List.range n).map f, rfl, hle, by omega, by simp, fun i o ho => ?_⟩
    have hin : i < n := by have := (List.getElem?_eq_some_iff.1 ho).1; simpa using this
    have e : f i = o := by simpa [hin] using ho
    obtain ⟨g1, g2, g3⟩ := hfv i hin
    refine ⟨a, rfl, ?_, e ▸ g1, e ▸ g2, e ▸ g3⟩
    obtain ⟨p, hp, hpb⟩ := row_block (a := a) (n := c * Try.prog.cellsOf 49) (by rw [cl_act]; omega)
    rw [← hpb]
    refine hlt p ?_
    rw [hx.2]
    exact List.mem_append_left _ hp
end
end Go.Proofs.Ytabcoidjbigdbaa

namespace Go.Proofs.Ytabcoidjbigdbaa
open Go.RowKit

set_option maxRecDepth 100000 in
set_option maxHeartbeats 25600000 in
theorem plays_walk (A : Option Addr) (n c : Nat) (l : List ActN) (C : Nat) (w : World) (hA : HasActs w C A n l) (hC : C ≤ w.heap.size) (hn : n ≤ maxLen) :
    Calls Try.prog 6 #[.slice A n c] w fun e w' => e = .returned (.bool true) ∧ Below w.heap.size w w' := by
  unfold maxLen at hn
  have Ha := Lib.hid (awake14_any w)
  have HA : Hid (∀ wx, Below w.heap.size w wx → HasActs wx C A n l) := Lib.hid fun wx hx => hA.belowOf hx hC
  clear hA
  by_cases hbig : 100 < n
  · have hbig' : (100 : Int) < (n : Int) := by omega
    go_enter Try.func6, Try.ntmps6
    go_wp2_with fail
    refine Ha.out.mono ?_
    rintro e w1 ⟨rfl, b1⟩
    have B1 := Lib.hid b1
    clear b1 Ha
    go_wp2
    go_ret
    exact ⟨rfl, B1.out⟩
  have hbig' : ¬ (100 : Int) < (n : Int) := by omega
  go_enter Try.func6, Try.ntmps6
  go_wp2_with fail
  refine Ha.out.mono ?_
  rintro e w1 ⟨rfl, b1⟩
  have B1 := Lib.hid b1
  clear b1 Ha
  go_wp2_with fail
  refine (netNew_any w1).mono ?_
  rintro e w2 ⟨sb, mb, rfl, n2, b2⟩
  obtain ⟨w3, hw3⟩ : ∃ w3, w2.alloc (.cells #[.slice none 0 0, .int .i64 0] 47) = w3 := ⟨_, rfl⟩
  have b3 : Below w2.heap.size w2 w3 := hw3 ▸ below_box _
  have c3 : Box w3 w2.heap.size 47 #[.slice none 0 0, .int .i64 ((0 : Nat) : Int)] := hw3 ▸ Box.made _ _ _
  have HS : Hid (PSt w w3 w1.heap.size C sb mb w2.heap.size [] 0 [] 0 ∧ SameER [] []) := Lib.hid ⟨⟨n2.below b3, ⟨_, b2.size, c3, OwnSns.nil _ _, by simp⟩, B1.out.trans ((b2.trans (b3.mono b2.size)).mono B1.out.size), hC, B1.out.size, Nat.le_trans b2.size b3.size⟩, rfl⟩
  have HC2 : Hid (C ≤ w.heap.size) := Lib.hid hC
  clear n2 b2 b3 c3 hC hn hbig
  go_wp2
  clear hw3
  generalize hrb : w2.heap.size = rb at *
  generalize w1.heap.size = Bn at *
  clear hrb
  go_loopw [5] (fun iv wr => ∃ (k d : Nat) (E R : List NEn), k ≤ n ∧ d ≤ k ∧ E.length ≤ k ∧ iv = .int .i64 (k : Int) ∧ Hid (PSt w wr Bn C sb mb rb E d R d ∧ SameER E R)) (fun iv _ => n - (intOf iv).toNat)
  case atStart => exact ⟨0, 0, [], [], by omega, by omega, by simp, rfl, HS⟩
  case round =>
    clear HS
    obtain ⟨k, d, E, R, hk, hdk, hEk, rfl, HE⟩ := hrel
    by_cases hlt : k < n
    · have hk0 : (0 : Int) ≤ (k : Int) := by omega
      have hk1 : (k : Int) < (n : Int) := by omega
      obtain ⟨a, o, rfl, hab, ho, c0, cc, c15, hlet, hwf⟩ := (HA.out wr HE.out.1.below).at_ hlt
      obtain ⟨ok, oL, oAp, onp, ocp, oAi, oni, oci, on⟩ := o
      simp only at c0 cc c15 hwf hlet
      obtain rfl : oL.ps.length = onp := hlet.ps.1
      obtain rfl : oL.is.length = oni := hlet.is.1
      have HWF := Lib.hid hwf
      have k1 : wr.cell? ⟨(a.add (k * 16)).block, (a.add (k * 16)).off + 1, none⟩ = some (.int .i64 oL.kind) := cc 0 _ rfl
      have k2 : wr.cell? ⟨(a.add (k * 16)).block, (a.add (k * 16)).off + 2, none⟩ = some (.int .i64 oL.frm) := cc 1 _ rfl
      have k3 : wr.cell? ⟨(a.add (k * 16)).block, (a.add (k * 16)).off + 3, none⟩ = some (.int .i64 oL.to) := cc 2 _ rfl
      have k4 : wr.cell? ⟨(a.add (k * 16)).block, (a.add (k * 16)).off + 4, none⟩ = some (.int .i64 oL.a) := cc 3 _ rfl
      have k5 : wr.cell? ⟨(a.add (k * 16)).block, (a.add (k * 16)).off + 5, none⟩ = some (.int .i64 oL.b) := cc 4 _ rfl
      have k6 : wr.cell? ⟨(a.add (k * 16)).block, (a.add (k * 16)).off + 6, none⟩ = some (.int .i64 oL.c) := cc 5 _ rfl
      have k7 : wr.cell? ⟨(a.add (k * 16)).block, (a.add (k * 16)).off + 7, none⟩ = some (.int .i64 oL.d) := cc 6 _ rfl
      have k8 : wr.cell? ⟨(a.add (k * 16)).block, (a.add (k * 16)).off + 8, none⟩ = some (.string oL.s) := cc 7 _ rfl
      have k9 : wr.cell? ⟨(a.add (k * 16)).block, (a.add (k * 16)).off + 9, none⟩ = some (.string oL.t) := cc 8 _ rfl
      have k10 : wr.cell? ⟨(a.add (k * 16)).block, (a.add (k * 16)).off + 10, none⟩ = some (.slice oAp oL.ps.length ocp) := cc 9 _ rfl
      have k11 : wr.cell? ⟨(a.add (k * 16)).block, (a.add (k * 16)).off + 11, none⟩ = some (.slice oAi oL.is.length oci) := cc 10 _ rfl
      have k12 : wr.cell? ⟨(a.add (k * 16)).block, (a.add (k * 16)).off + 12, none⟩ = some (.int .i64 oL.code) := cc 11 _ rfl
      have k13 : wr.cell? ⟨(a.add (k * 16)).block, (a.add (k * 16)).off + 13, none⟩ = some (.bool oL.yes) := cc 12 _ rfl
      have k14 : wr.cell? ⟨(a.add (k * 16)).block, (a.add (k * 16)).off + 14, none⟩ = some (.string oL.body) := cc 13 _ rfl
      have HLet : Hid (∀ wx, Below wr.heap.size wr wx → LetIn wx C oL oAp oL.ps.length oAi oL.is.length ∧ C ≤ wx.heap.size) := Lib.hid fun wx hx => by
        have := HC2.out
        have := HE.out.1.below.size
        exact ⟨hlet.belowOf hx (by omega), by have := hx.size; omega⟩
      have HLW : Hid (∀ wx, Below C wr wx → LetIn wx C oL oAp oL.ps.length oAi oL.is.length) := Lib.hid fun wx hx => hlet.belowOf hx (Nat.le_refl _)
      clear ho hab hwf cc hlet
      obtain ⟨w4, hw4⟩ : ∃ w4, wr.alloc (.cells #[.int .i64 0, .int .i64 0, .int .i64 0, .int .i64 0, .int .i64 0, .int .i64 0, .int .i64 0, .int .i64 0, .string ⟨#[]⟩, .string ⟨#[]⟩, .slice none 0 0, .slice none 0 0, .int .i64 0, .bool false, .string ⟨#[]⟩, .int .i64 0] 49) = w4 := ⟨_, rfl⟩
      have b4 : Below wr.heap.size wr w4 := hw4 ▸ below_box _
      have z4 : Box w4 wr.heap.size 49 #[.int .i64 0, .int .i64 0, .int .i64 0, .int .i64 0, .int .i64 0, .int .i64 0, .int .i64 0, .int .i64 0, .string ⟨#[]⟩, .string ⟨#[]⟩, .slice none 0 0, .slice none 0 0, .int .i64 0, .bool false, .string ⟨#[]⟩, .int .i64 0] := hw4 ▸ Box.made _ _ _
      have d0 : w4.cell? ⟨wr.heap.size, 0, none⟩ = some (.int .i64 0) := z4.cell 0
      have f0 : w4.frozen? ⟨wr.heap.size, 0, none⟩ = false := z4.frozen 0
      have d1 : w4.cell? ⟨wr.heap.size, 1, none⟩ = some (.int .i64 0) := z4.cell 1
      have f1 : w4.frozen? ⟨wr.heap.size, 1, none⟩ = false := z4.frozen 1
      have d2 : w4.cell? ⟨wr.heap.size, 2, none⟩ = some (.int .i64 0) := z4.cell 2
      have f2 : w4.frozen? ⟨wr.heap.size, 2, none⟩ = false := z4.frozen 2
      have d3 : w4.cell? ⟨wr.heap.size, 3, none⟩ = some (.int .i64 0) := z4.cell 3
      have f3 : w4.frozen? ⟨wr.heap.size, 3, none⟩ = false := z4.frozen 3
      have d4 : w4.cell? ⟨wr.heap.size, 4, none⟩ = some (.int .i64 0) := z4.cell 4
      have f4 : w4.frozen? ⟨wr.heap.size, 4, none⟩ = false := z4.frozen 4
      have d5 : w4.cell? ⟨wr.heap.size, 5, none⟩ = some (.int .i64 0) := z4.cell 5
      have f5 : w4.frozen? ⟨wr.heap.size, 5, none⟩ = false := z4.frozen 5
      have d6 : w4.cell? ⟨wr.heap.size, 6, none⟩ = some (.int .i64 0) := z4.cell 6
      have f6 : w4.frozen? ⟨wr.heap.size, 6, none⟩ = false := z4.frozen 6
      have d7 : w4.cell? ⟨wr.heap.size, 7, none⟩ = some (.int .i64 0) := z4.cell 7
      have f7 : w4.frozen? ⟨wr.heap.size, 7, none⟩ = false := z4.frozen 7
      have d8 : w4.cell? ⟨wr.heap.size, 8, none⟩ = some (.string ⟨#[]⟩) := z4.cell 8
      have f8 : w4.frozen? ⟨wr.heap.size, 8, none⟩ = false := z4.frozen 8
      have d9 : w4.cell? ⟨wr.heap.size, 9, none⟩ = some (.string ⟨#[]⟩) := z4.cell 9
      have f9 : w4.frozen? ⟨wr.heap.size, 9, none⟩ = false := z4.frozen 9
      have d10 : w4.cell? ⟨wr.heap.size, 10, none⟩ = some (.slice none 0 0) := z4.cell 10
      have f10 : w4.frozen? ⟨wr.heap.size, 10, none⟩ = false := z4.frozen 10
      have d11 : w4.cell? ⟨wr.heap.size, 11, none⟩ = some (.slice none 0 0) := z4.cell 11
      have f11 : w4.frozen? ⟨wr.heap.size, 11, none⟩ = false := z4.frozen 11
      have d12 : w4.cell? ⟨wr.heap.size, 12, none⟩ = some (.int .i64 0) := z4.cell 12
      have f12 : w4.frozen? ⟨wr.heap.size, 12, none⟩ = false := z4.frozen 12
      have d13 : w4.cell? ⟨wr.heap.size, 13, none⟩ = some (.bool false) := z4.cell 13
      have f13 : w4.frozen? ⟨wr.heap.size, 13, none⟩ = false := z4.frozen 13
      have d14 : w4.cell? ⟨wr.heap.size, 14, none⟩ = some (.string ⟨#[]⟩) := z4.cell 14
      have f14 : w4.frozen? ⟨wr.heap.size, 14, none⟩ = false := z4.frozen 14
      have d15 : w4.cell? ⟨wr.heap.size, 15, none⟩ = some (.int .i64 0) := z4.cell 15
      have f15 : w4.frozen? ⟨wr.heap.size, 15, none⟩ = false := z4.frozen 15
      obtain ⟨w5, hw5⟩ : ∃ w5, ((((((((((((((((w4.setCell ⟨wr.heap.size, 0, none⟩ (.int .i64 ok)).setCell ⟨wr.heap.size, 1, none⟩ (.int .i64 oL.kind)).setCell ⟨wr.heap.size, 2, none⟩ (.int .i64 oL.frm)).setCell ⟨wr.heap.size, 3, none⟩ (.int .i64 oL.to)).setCell ⟨wr.heap.size, 4, none⟩ (.int .i64 oL.a)).setCell ⟨wr.heap.size, 5, none⟩ (.int .i64 oL.b)).setCell ⟨wr.heap.size, 6, none⟩ (.int .i64 oL.c)).setCell ⟨wr.heap.size, 7, none⟩ (.int .i64 oL.d)).setCell ⟨wr.heap.size, 8, none⟩ (.string oL.s)).setCell ⟨wr.heap.size, 9, none⟩ (.string oL.t)).setCell ⟨wr.heap.size, 10, none⟩ (.slice oAp oL.ps.length ocp)).setCell ⟨wr.heap.size, 11, none⟩ (.slice oAi oL.is.length oci)).setCell ⟨wr.heap.size, 12, none⟩ (.int .i64 oL.code)).setCell ⟨wr.heap.size, 13, none⟩ (.bool oL.yes)).setCell ⟨wr.heap.size, 14, none⟩ (.string oL.body)).setCell ⟨wr.heap.size, 15, none⟩ (.int .i64 on)) = w5 := ⟨_, rfl⟩
      obtain ⟨x5, g5, -⟩ := store16 z4 hw5
      have b5 : Below wr.heap.size wr w5 := b4.grown g5 b4.size (fun g hg => by injection hg with hg; omega)
      have HE5 : Hid ((PSt w w5 Bn C sb mb rb E d R d ∧ SameER E R) ∧ Box w5 wr.heap.size 49 #[.int .i64 ok, .int .i64 oL.kind, .int .i64 oL.frm, .int .i64 oL.to, .int .i64 oL.a, .int .i64 oL.b, .int .i64 oL.c, .int .i64 oL.d, .string oL.s, .string oL.t, .slice oAp oL.ps.length ocp, .slice oAi oL.is.length oci, .int .i64 oL.code, .bool oL.yes, .string oL.body, .int .i64 on] ∧ Below wr.heap.size wr w5) := Lib.hid ⟨⟨HE.out.1.next b5, HE.out.2⟩, x5, b5⟩
      have x0 : w5.cell? ⟨wr.heap.size, 0, none⟩ = some (.int .i64 ok) := x5.cell 0
      have x1 : w5.cell? ⟨wr.heap.size, 1, none⟩ = some (.int .i64 oL.kind) := x5.cell 1
      have x2 : w5.cell? ⟨wr.heap.size, 2, none⟩ = some (.int .i64 oL.frm) := x5.cell 2
      have x3 : w5.cell? ⟨wr.heap.size, 3, none⟩ = some (.int .i64 oL.to) := x5.cell 3
      have x4 : w5.cell? ⟨wr.heap.size, 4, none⟩ = some (.int .i64 oL.a) := x5.cell 4
      have xx5 : w5.cell? ⟨wr.heap.size, 5, none⟩ = some (.int .i64 oL.b) := x5.cell 5
      have x6 : w5.cell? ⟨wr.heap.size, 6, none⟩ = some (.int .i64 oL.c) := x5.cell 6
      have x7 : w5.cell? ⟨wr.heap.size, 7, none⟩ = some (.int .i64 oL.d) := x5.cell 7
      have x8 : w5.cell? ⟨wr.heap.size, 8, none⟩ = some (.string oL.s) := x5.cell 8
      have x9 : w5.cell? ⟨wr.heap.size, 9, none⟩ = some (.string oL.t) := x5.cell 9
      have x10 : w5.cell? ⟨wr.heap.size, 10, none⟩ = some (.slice oAp oL.ps.length ocp) := x5.cell 10
      have x11 : w5.cell? ⟨wr.heap.size, 11, none⟩ = some (.slice oAi oL.is.length oci) := x5.cell 11
      have x12 : w5.cell? ⟨wr.heap.size, 12, none⟩ = some (.int .i64 oL.code) := x5.cell 12
      have x13 : w5.cell? ⟨wr.heap.size, 13, none⟩ = some (.bool oL.yes) := x5.cell 13
      have x14 : w5.cell? ⟨wr.heap.size, 14, none⟩ = some (.string oL.body) := x5.cell 14
      have x15 : w5.cell? ⟨wr.heap.size, 15, none⟩ = some (.int .i64 on) := x5.cell 15
      have Hlt := Lib.hid (light13_any oL oAp oL.ps.length ocp oAi oL.is.length oci C w5 (HLet.out w5 b5).1.ps (HLet.out w5 b5).1.is (HLet.out w5 b5).2 (HLet.out w5 b5).1.lens (HLet.out w5 b5).1.txt (HLet.out w5 b5).1.txp (HLet.out w5 b5).1.txi)
      unfold LightPostL at Hlt
      clear b4 z4 x5 g5 b5
      go_wp2_with fail
      refine Hlt.out.mono ?_
      rintro e w6 ⟨bl, rfl, hbl, b6⟩
      clear Hlt x0 x1 x2 x3 x4 xx5 x6 x7 x8 x9 x10 x11 x12 x13 x14 x15 c0 c15 k1 k2 k3 k4 k5 k6 k7 k8 k9 k10 k11 k12 k13 k14 d0 f0 d1 f1 d2 f2 d3 f3 d4 f4 d5 f5 d6 f6 d7 f7 d8 f8 d9 f9 d10 f10 d11 f11 d12 f12 d13 f13 d14 f14 d15 f15
      have HE6 : Hid ((PSt w w6 Bn C sb mb rb E d R d ∧ SameER E R) ∧ Box w6 wr.heap.size 49 #[.int .i64 ok, .int .i64 oL.kind, .int .i64 oL.frm, .int .i64 oL.to, .int .i64 oL.a, .int .i64 oL.b, .int .i64 oL.c, .int .i64 oL.d, .string oL.s, .string oL.t, .slice oAp oL.ps.length ocp, .slice oAi oL.is.length oci, .int .i64 oL.code, .bool oL.yes, .string oL.body, .int .i64 on] ∧ Below wr.heap.size wr w6) := Lib.hid ⟨⟨HE5.out.1.1.next b6, HE5.out.1.2⟩, HE5.out.2.1.below b6 HE5.out.2.1.lt, HE5.out.2.2.trans (b6.mono HE5.out.2.2.size)⟩
      clear b6 HE5 HE
      cases bl with
      | false =>
        have HB := Lib.hid HE6.out.1.1.below
        go_wp2
        go_ret
        exact ⟨rfl, HB.out⟩
      | true =>
        clear hbl
        have HL6 : Hid (∀ wx, Below C w6 wx → LetIn wx C oL oAp oL.ps.length oAi oL.is.length) := Lib.hid fun wx hx => by
          have := HC2.out
          have := HE6.out.1.1.lo
          have hsz := HE6.out.1.1.net.box.lt
          have hw : C ≤ wr.heap.size := (HLet.out wr (Below.refl _ _)).2
          exact HLW.out wx ((HE6.out.2.2.mono hw).trans hx)
        generalize hga : wr.heap.size = ga at *
        have x0 : w6.cell? ⟨ga, 0, none⟩ = some (.int .i64 ok) := HE6.out.2.1.cell 0
        have x1 : w6.cell? ⟨ga, 1, none⟩ = some (.int .i64 oL.kind) := HE6.out.2.1.cell 1
        have x2 : w6.cell? ⟨ga, 2, none⟩ = some (.int .i64 oL.frm) := HE6.out.2.1.cell 2
        have x3 : w6.cell? ⟨ga, 3, none⟩ = some (.int .i64 oL.to) := HE6.out.2.1.cell 3
        have x4 : w6.cell? ⟨ga, 4, none⟩ = some (.int .i64 oL.a) := HE6.out.2.1.cell 4
        have x5 : w6.cell? ⟨ga, 5, none⟩ = some (.int .i64 oL.b) := HE6.out.2.1.cell 5
        have x6 : w6.cell? ⟨ga, 6, none⟩ = some (.int .i64 oL.c) := HE6.out.2.1.cell 6
        have x7 : w6.cell? ⟨ga, 7, none⟩ = some (.int .i64 oL.d) := HE6.out.2.1.cell 7
        have x8 : w6.cell? ⟨ga, 8, none⟩ = some (.string oL.s) := HE6.out.2.1.cell 8
        have x9 : w6.cell? ⟨ga, 9, none⟩ = some (.string oL.t) := HE6.out.2.1.cell 9
        have x10 : w6.cell? ⟨ga, 10, none⟩ = some (.slice oAp oL.ps.length ocp) := HE6.out.2.1.cell 10
        have x11 : w6.cell? ⟨ga, 11, none⟩ = some (.slice oAi oL.is.length oci) := HE6.out.2.1.cell 11
        have x12 : w6.cell? ⟨ga, 12, none⟩ = some (.int .i64 oL.code) := HE6.out.2.1.cell 12
        have x13 : w6.cell? ⟨ga, 13, none⟩ = some (.bool oL.yes) := HE6.out.2.1.cell 13
        have x14 : w6.cell? ⟨ga, 14, none⟩ = some (.string oL.body) := HE6.out.2.1.cell 14
        have x15 : w6.cell? ⟨ga, 15, none⟩ = some (.int .i64 on) := HE6.out.2.1.cell 15
        go_upto_block 2 with fail
        go_cut [5] (fun iv wx => ∃ (d' : Nat) (E' R' : List NEn), iv = .int .i64 (k : Int) ∧ d' ≤ k + 1 ∧ E'.length ≤ k + 1 ∧ Hid (PSt w wx Bn C sb mb rb E' d' R' d' ∧ SameER E' R'))
        case first =>
          by_cases h1 : ok = 1
          · as_aux_lemma =>
              subst h1
              have Ht := Lib.hid (send_twin HE6.out.1.1 HE6.out.1.2 (by omega) oL oAp ocp oAi oci HL6.out)
              clear x0
              go_wp2_with fail
              refine Ht.out.mono ?_
              rintro e w7 ⟨x, z, E2, d2, rfl, p7, kb7, hd2, hE2, hT⟩
              have bx := kb7 _ _ _ (by decide) (by decide) (by decide) HE6.out.2.1
              have HT := Lib.hid (hT w7 (Below.refl _ _))
              have y1 : w7.cell? ⟨ga, 1, none⟩ = some (.int .i64 oL.kind) := bx.cell 1
              have y2 : w7.cell? ⟨ga, 2, none⟩ = some (.int .i64 oL.frm) := bx.cell 2
              have y3 : w7.cell? ⟨ga, 3, none⟩ = some (.int .i64 oL.to) := bx.cell 3
              have y4 : w7.cell? ⟨ga, 4, none⟩ = some (.int .i64 oL.a) := bx.cell 4
              have y5 : w7.cell? ⟨ga, 5, none⟩ = some (.int .i64 oL.b) := bx.cell 5
              have y6 : w7.cell? ⟨ga, 6, none⟩ = some (.int .i64 oL.c) := bx.cell 6
              have y7 : w7.cell? ⟨ga, 7, none⟩ = some (.int .i64 oL.d) := bx.cell 7
              have y8 : w7.cell? ⟨ga, 8, none⟩ = some (.string oL.s) := bx.cell 8
              have y9 : w7.cell? ⟨ga, 9, none⟩ = some (.string oL.t) := bx.cell 9
              have y10 : w7.cell? ⟨ga, 10, none⟩ = some (.slice oAp oL.ps.length ocp) := bx.cell 10
              have y11 : w7.cell? ⟨ga, 11, none⟩ = some (.slice oAi oL.is.length oci) := bx.cell 11
              have y12 : w7.cell? ⟨ga, 12, none⟩ = some (.int .i64 oL.code) := bx.cell 12
              have y13 : w7.cell? ⟨ga, 13, none⟩ = some (.bool oL.yes) := bx.cell 13
              have y14 : w7.cell? ⟨ga, 14, none⟩ = some (.string oL.body) := bx.cell 14
              have hxx : (x != x) = false := by simp
              have hzz : (z != z) = false := by simp
              clear Ht hT p7 kb7 bx x1 x2 x3 x4 x5 x6 x7 x8 x9 x10 x11 x12 x13 x14 x15
              go_wp2_with fail
              refine HT.out.mono ?_
              rintro e w8 ⟨rfl, ⟨R2, p8, hs8⟩, -⟩
              have HF := Lib.hid (And.intro p8 hs8)
              clear HT p8 hs8 y1 y2 y3 y4 y5 y6 y7 y8 y9 y10 y11 y12 y13 y14
              go_wp2
              go_meet
              exact ⟨d2, E2, R2, rfl, by omega, by omega, HF⟩
          by_cases h2 : ok = 2
          · as_aux_lemma =>
              subst h2
              have Ht := Lib.hid (deliver_twin HE6.out.1.1 HE6.out.1.2 (by omega) on HWF.out)
              clear x0 x1 x2 x3 x4 x5 x6 x7 x8 x9 x10 x11 x12 x13 x14
              go_wp2_with fail
              refine Ht.out.mono ?_
              rintro e w7 ⟨X, Xp, cx, Xi, dx, z, E2, rfl, p7, kb7, hE2, hT⟩
              obtain ⟨w8, hw8⟩ : ∃ w8, (w7.alloc (.cells #[.int .i64 X.kind, .int .i64 X.frm, .int .i64 X.to, .int .i64 X.a, .int .i64 X.b, .int .i64 X.c, .int .i64 X.d, .string X.s, .string X.t, .slice Xp X.ps.length cx, .slice Xi X.is.length dx, .int .i64 X.code, .bool X.yes, .string X.body] 26)) = w8 := ⟨_, rfl⟩
              have b8 : Below w7.heap.size w7 w8 := hw8 ▸ below_box _
              have bX : Box w8 w7.heap.size 26 #[.int .i64 X.kind, .int .i64 X.frm, .int .i64 X.to, .int .i64 X.a, .int .i64 X.b, .int .i64 X.c, .int .i64 X.d, .string X.s, .string X.t, .slice Xp X.ps.length cx, .slice Xi X.is.length dx, .int .i64 X.code, .bool X.yes, .string X.body] := hw8 ▸ Box.made _ _ _
              have bx := (kb7 _ _ _ (by decide) (by decide) (by decide) HE6.out.2.1).below b8 (kb7 _ _ _ (by decide) (by decide) (by decide) HE6.out.2.1).lt
              have HT := Lib.hid (hT w8 b8)
              have y15 : w8.cell? ⟨ga, 15, none⟩ = some (.int .i64 on) := bx.cell 15
              have HbX := Lib.hid bX
              have hzz : (z != z) = false := by simp
              clear Ht hT p7 kb7 bx b8 bX x15
              go_wp2_with fail
              refine HT.out.mono ?_
              rintro e w9 ⟨Yp, cy, Yi, dy, rfl, ⟨R2, p9, hs9⟩, kb9, hS⟩
              obtain ⟨w10, hw10⟩ : ∃ w10, (w9.alloc (.cells #[.int .i64 X.kind, .int .i64 X.frm, .int .i64 X.to, .int .i64 X.a, .int .i64 X.b, .int .i64 X.c, .int .i64 X.d, .string X.s, .string X.t, .slice Yp X.ps.length cy, .slice Yi X.is.length dy, .int .i64 X.code, .bool X.yes, .string X.body] 26)) = w10 := ⟨_, rfl⟩
              have b10 : Below w9.heap.size w9 w10 := hw10 ▸ below_box _
              have bY : Box w10 w9.heap.size 26 #[.int .i64 X.kind, .int .i64 X.frm, .int .i64 X.to, .int .i64 X.a, .int .i64 X.b, .int .i64 X.c, .int .i64 X.d, .string X.s, .string X.t, .slice Yp X.ps.length cy, .slice Yi X.is.length dy, .int .i64 X.code, .bool X.yes, .string X.body] := hw10 ▸ Box.made _ _ _
              have bX9 := kb9 _ _ _ (by decide) (by decide) (by decide) HbX.out
              have bX10 := bX9.below b10 bX9.lt
              have HS := Lib.hid (hS w10 b10)
              have HP := Lib.hid (And.intro (p9.next b10) hs9)
              obtain ⟨⟨q0, q1, q2, q3, q4, q5, q6⟩, ⟨q7, q8⟩, ⟨q9, q10⟩, ⟨q11, q12, q13⟩⟩ := let_cells bX10
              obtain ⟨⟨r0, r1, r2, r3, r4, r5, r6⟩, ⟨r7, r8⟩, ⟨r9, r10⟩, ⟨r11, r12, r13⟩⟩ := let_cells bY
              clear HT hS p9 hs9 kb9 b10 bY bX9 bX10 HbX y15
              go_wp2_with fail
              refine HS.out.mono ?_
              rintro e w11 ⟨rfl, b11⟩
              have HF := Lib.hid (And.intro (HP.out.1.next b11) HP.out.2)
              clear HS HP b11 q0 r0 q1 r1 q2 r2 q3 r3 q4 r4 q5 r5 q6 r6 q7 r7 q8 r8 q9 r9 q10 r10 q11 r11 q12 r12 q13 r13
              go_wp2
              go_meet
              exact ⟨d, E2, R2, rfl, by omega, by omega, HF⟩
          by_cases h3 : ok = 3
          · as_aux_lemma =>
              subst h3
              have Ht := Lib.hid (drop_twin HE6.out.1.1 HE6.out.1.2 (by omega) on HWF.out)
              clear x0 x1 x2 x3 x4 x5 x6 x7 x8 x9 x10 x11 x12 x13 x14
              go_wp2_with fail
              refine Ht.out.mono ?_
              rintro e w7 ⟨X, Xp, cx, Xi, dx, z, R2, rfl, p7, kb7, hT⟩
              obtain ⟨w8, hw8⟩ : ∃ w8, (w7.alloc (.cells #[.int .i64 X.kind, .int .i64 X.frm, .int .i64 X.to, .int .i64 X.a, .int .i64 X.b, .int .i64 X.c, .int .i64 X.d, .string X.s, .string X.t, .slice Xp X.ps.length cx, .slice Xi X.is.length dx, .int .i64 X.code, .bool X.yes, .string X.body] 26)) = w8 := ⟨_, rfl⟩
              have b8 : Below w7.heap.size w7 w8 := hw8 ▸ below_box _
              have bx := (kb7 _ _ _ (by decide) (by decide) (by decide) HE6.out.2.1).below b8 (kb7 _ _ _ (by decide) (by decide) (by decide) HE6.out.2.1).lt
              have HT := Lib.hid (hT w8 b8)
              have y15 : w8.cell? ⟨ga, 15, none⟩ = some (.int .i64 on) := bx.cell 15
              have hzz : (z != z) = false := by simp
              clear Ht hT p7 kb7 bx b8 x15
              go_wp2_with fail
              refine HT.out.mono ?_
              rintro e w9 ⟨rfl, ⟨E2, p9, hs9, hE2⟩, -⟩
              have HF := Lib.hid (And.intro p9 hs9)
              clear HT p9 hs9 y15
              go_wp2
              go_meet
              exact ⟨d, E2, R2, rfl, by omega, by omega, HF⟩
          by_cases h4 : ok = 4
          · as_aux_lemma =>
              subst h4
              have Ht := Lib.hid (twice_twin HE6.out.1.1 HE6.out.1.2 (by omega) (by omega) on HWF.out)
              clear x0 x1 x2 x3 x4 x5 x6 x7 x8 x9 x10 x11 x12 x13 x14
              go_wp2_with fail
              refine Ht.out.mono ?_
              rintro e w7 ⟨x, z, E2, d2, rfl, p7, kb7, hd2, hE2, hT⟩
              have bx := kb7 _ _ _ (by decide) (by decide) (by decide) HE6.out.2.1
              have HT := Lib.hid (hT w7 (Below.refl _ _))
              have y15 : w7.cell? ⟨ga, 15, none⟩ = some (.int .i64 on) := bx.cell 15
              have hxx : (x != x) = false := by simp
              have hzz : (z != z) = false := by simp
              clear Ht hT p7 kb7 bx x15
              go_wp2_with fail
              refine HT.out.mono ?_
              rintro e w8 ⟨rfl, ⟨R2, p8, hs8⟩, -⟩
              have HF := Lib.hid (And.intro p8 hs8)
              clear HT p8 hs8 y15
              go_wp2
              go_meet
              exact ⟨d2, E2, R2, rfl, by omega, by omega, HF⟩
          by_cases h5 : ok = 5
          · as_aux_lemma =>
              subst h5
              have Ht := Lib.hid (look_twin HE6.out.1.1 HE6.out.1.2 (by omega) on HWF.out)
              clear x0 x1 x2 x3 x4 x5 x6 x7 x8 x9 x10 x11 x12 x13 x14
              go_wp2_with fail
              refine Ht.out.mono ?_
              rintro e w7 ⟨X, Xp, cx, Xi, dx, is, rfl, b7, hT⟩
              obtain ⟨w8, hw8⟩ : ∃ w8, (w7.alloc (.cells #[.int .i64 X.kind, .int .i64 X.frm, .int .i64 X.to, .int .i64 X.a, .int .i64 X.b, .int .i64 X.c, .int .i64 X.d, .string X.s, .string X.t, .slice Xp X.ps.length cx, .slice Xi X.is.length dx, .int .i64 X.code, .bool X.yes, .string X.body] 26)) = w8 := ⟨_, rfl⟩
              have b8 : Below w7.heap.size w7 w8 := hw8 ▸ below_box _
              have bX : Box w8 w7.heap.size 26 #[.int .i64 X.kind, .int .i64 X.frm, .int .i64 X.to, .int .i64 X.a, .int .i64 X.b, .int .i64 X.c, .int .i64 X.d, .string X.s, .string X.t, .slice Xp X.ps.length cx, .slice Xi X.is.length dx, .int .i64 X.code, .bool X.yes, .string X.body] := hw8 ▸ Box.made _ _ _
              have bb := b7.trans (b8.mono b7.size)
              have bx := HE6.out.2.1.below bb HE6.out.2.1.lt
              have HT := Lib.hid (hT w8 b8)
              have y15 : w8.cell? ⟨ga, 15, none⟩ = some (.int .i64 on) := bx.cell 15
              have HSX : Hid (∀ wy, Below w8.heap.size w8 wy → Box wy w7.heap.size 26 #[.int .i64 X.kind, .int .i64 X.frm, .int .i64 X.to, .int .i64 X.a, .int .i64 X.b, .int .i64 X.c, .int .i64 X.d, .string X.s, .string X.t, .slice Xp X.ps.length cx, .slice Xi X.is.length dx, .int .i64 X.code, .bool X.yes, .string X.body]) := Lib.hid fun wy hy => bX.below hy bX.lt
              have HP := Lib.hid (And.intro (HE6.out.1.1.next bb) HE6.out.1.2)
              clear Ht hT b7 b8 bb bx bX x15
              go_wp2_with fail
              refine HT.out.mono ?_
              rintro e w9 ⟨rfl, hq⟩
              clear HT y15
              rcases hq with ⟨rfl, rfl, hS⟩ | ⟨rfl, i, N, a2, cap, Yp, cy, Yi, dy, rfl, hiN, hN, hS⟩
              · have HS := Lib.hid hS
                clear hS
                have HX : Hid (∀ wy, Below w9.heap.size w9 wy → (wy.cell? ⟨w7.heap.size, 0, none⟩ = some (.int .i64 X.kind) ∧ wy.cell? ⟨w7.heap.size, 1, none⟩ = some (.int .i64 X.frm) ∧ wy.cell? ⟨w7.heap.size, 2, none⟩ = some (.int .i64 X.to) ∧ wy.cell? ⟨w7.heap.size, 3, none⟩ = some (.int .i64 X.a) ∧ wy.cell? ⟨w7.heap.size, 4, none⟩ = some (.int .i64 X.b) ∧ wy.cell? ⟨w7.heap.size, 5, none⟩ = some (.int .i64 X.c) ∧ wy.cell? ⟨w7.heap.size, 6, none⟩ = some (.int .i64 X.d) ∧ wy.cell? ⟨w7.heap.size, 7, none⟩ = some (.string X.s) ∧ wy.cell? ⟨w7.heap.size, 8, none⟩ = some (.string X.t) ∧ wy.cell? ⟨w7.heap.size, 9, none⟩ = some (.slice Xp X.ps.length cx) ∧ wy.cell? ⟨w7.heap.size, 10, none⟩ = some (.slice Xi X.is.length dx) ∧ wy.cell? ⟨w7.heap.size, 11, none⟩ = some (.int .i64 X.code) ∧ wy.cell? ⟨w7.heap.size, 12, none⟩ = some (.bool X.yes) ∧ wy.cell? ⟨w7.heap.size, 13, none⟩ = some (.string X.body))) := Lib.hid fun wy hy => by
                  have b := HSX.out wy hy
                  exact ⟨b.cell 0, b.cell 1, b.cell 2, b.cell 3, b.cell 4, b.cell 5, b.cell 6, b.cell 7, b.cell 8, b.cell 9, b.cell 10, b.cell 11, b.cell 12, b.cell 13⟩
                go_upto_region 35 with fail
                go_cut [178] (fun t wx => t = .bool false ∧ Hid (Below w9.heap.size w9 wx))
                case first =>
                  as_aux_lemma =>
                    refine wp_region_held_drew (S := (fun wy => wy.cell? ⟨w7.heap.size, 0, none⟩ = some (.int .i64 X.kind) ∧ wy.cell? ⟨w7.heap.size, 1, none⟩ = some (.int .i64 X.frm) ∧ wy.cell? ⟨w7.heap.size, 2, none⟩ = some (.int .i64 X.to) ∧ wy.cell? ⟨w7.heap.size, 3, none⟩ = some (.int .i64 X.a) ∧ wy.cell? ⟨w7.heap.size, 4, none⟩ = some (.int .i64 X.b) ∧ wy.cell? ⟨w7.heap.size, 5, none⟩ = some (.int .i64 X.c) ∧ wy.cell? ⟨w7.heap.size, 6, none⟩ = some (.int .i64 X.d) ∧ wy.cell? ⟨w7.heap.size, 7, none⟩ = some (.string X.s) ∧ wy.cell? ⟨w7.heap.size, 8, none⟩ = some (.string X.t) ∧ wy.cell? ⟨w7.heap.size, 9, none⟩ = some (.slice Xp X.ps.length cx) ∧ wy.cell? ⟨w7.heap.size, 10, none⟩ = some (.slice Xi X.is.length dx) ∧ wy.cell? ⟨w7.heap.size, 11, none⟩ = some (.int .i64 X.code) ∧ wy.cell? ⟨w7.heap.size, 12, none⟩ = some (.bool X.yes) ∧ wy.cell? ⟨w7.heap.size, 13, none⟩ = some (.string X.body))) (by kernel_rfl) (HX.out _ (Below.refl _ _).drew) (fun hHeld => ?_)
                    refine wpAnyH_take (i := 0) (oi := ⟨some 149, _, _, _, _, _⟩) (v := .bool false) rfl (by kernel_rfl) (by kernel_rfl) (by kernel_rfl) (fun _ _ _ h => h) (Or.inl ⟨by rfl, ?_⟩) (by assumption) ?_
                    · intro w hSw; (try dsimp only at hSw); go_simp
                    simp only [Act.put, List.setIfInBounds_toArray, List.set_cons_zero, List.set_cons_succ]
                    refine wpAnyH_take (i := 1) (oi := ⟨some 150, _, _, _, _, _⟩) (v := .int .i64 (-1)) rfl (by kernel_rfl) (by kernel_rfl) (by kernel_rfl) (fun _ _ _ h => h) (Or.inl ⟨by rfl, ?_⟩) (by assumption) ?_
                    · intro w hSw; (try dsimp only at hSw); go_simp
                    simp only [Act.put, List.setIfInBounds_toArray, List.set_cons_zero, List.set_cons_succ]
                    refine wpAnyH_take (i := 2) (oi := ⟨some 151, _, _, _, _, _⟩) (v := .bool false) rfl (by kernel_rfl) (by kernel_rfl) (by kernel_rfl) (fun _ _ _ h => h) (Or.inl ⟨by rfl, ?_⟩) (by assumption) ?_
                    · intro w hSw; (try dsimp only at hSw); go_simp
                    simp only [Act.put, List.setIfInBounds_toArray, List.set_cons_zero, List.set_cons_succ]
                    refine wpAnyH_take (i := 3) (oi := ⟨some 152, _, _, _, _, _⟩) (v := .bool false) rfl (by kernel_rfl) (by kernel_rfl) (by kernel_rfl) (fun _ _ _ h => h) (Or.inl ⟨by rfl, ?_⟩) (by assumption) ?_
                    · intro w hSw; (try dsimp only at hSw); go_simp
                    simp only [Act.put, List.setIfInBounds_toArray, List.set_cons_zero, List.set_cons_succ]
                    refine wpAnyH_take (i := 4) (oi := ⟨some 153, _, _, _, _, _⟩) (v := .bool false) rfl (by kernel_rfl) (by kernel_rfl) (by kernel_rfl) (fun _ _ _ h => h) (Or.inl ⟨by rfl, ?_⟩) (by assumption) ?_
                    · intro w hSw; (try dsimp only at hSw); go_simp
                    simp only [Act.put, List.setIfInBounds_toArray, List.set_cons_zero, List.set_cons_succ]
                    refine wpAnyH_take (i := 5) (oi := ⟨some 154, _, _, _, _, _⟩) (v := .bool false) rfl (by kernel_rfl) (by kernel_rfl) (by kernel_rfl) (fun _ _ _ h => h) (Or.inl ⟨by rfl, ?_⟩) (by assumption) ?_
                    · intro w hSw; (try dsimp only at hSw); go_simp
                    simp only [Act.put, List.setIfInBounds_toArray, List.set_cons_zero, List.set_cons_succ]
                    refine wpAnyH_take (i := 6) (oi := ⟨some 155, _, _, _, _, _⟩) (v := .bool false) rfl (by kernel_rfl) (by kernel_rfl) (by kernel_rfl) (fun _ _ _ h => h) (Or.inl ⟨by rfl, ?_⟩) (by assumption) ?_
                    · intro w hSw; (try dsimp only at hSw); go_simp
                    simp only [Act.put, List.setIfInBounds_toArray, List.set_cons_zero, List.set_cons_succ]
                    refine wpAnyH_take (i := 7) (oi := ⟨some 156, _, _, _, _, _⟩) (v := undef) rfl (by kernel_rfl) (by kernel_rfl) (by kernel_rfl) (fun _ _ _ h => h) (Or.inr ⟨by rfl, rfl⟩) (by assumption) ?_
                    simp only [Act.put, List.setIfInBounds_toArray, List.set_cons_zero, List.set_cons_succ]
                    refine wpAnyH_take (i := 8) (oi := ⟨some 157, _, _, _, _, _⟩) (v := undef) rfl (by kernel_rfl) (by kernel_rfl) (by kernel_rfl) (fun _ _ _ h => h) (Or.inr ⟨by rfl, rfl⟩) (by assumption) ?_
                    simp only [Act.put, List.setIfInBounds_toArray, List.set_cons_zero, List.set_cons_succ]
                    refine wpAnyH_take (i := 9) (oi := ⟨some 158, _, _, _, _, _⟩) (v := undef) rfl (by kernel_rfl) (by kernel_rfl) (by kernel_rfl) (fun _ _ _ h => h) (Or.inr ⟨by rfl, rfl⟩) (by assumption) ?_
                    simp only [Act.put, List.setIfInBounds_toArray, List.set_cons_zero, List.set_cons_succ]
                    refine wpAnyH_take (i := 10) (oi := ⟨some 159, _, _, _, _, _⟩) (v := undef) rfl (by kernel_rfl) (by kernel_rfl) (by kernel_rfl) (fun _ _ _ h => h) (Or.inr ⟨by rfl, rfl⟩) (by assumption) ?_
                    simp only [Act.put, List.setIfInBounds_toArray, List.set_cons_zero, List.set_cons_succ]
                    refine wpAnyH_take (i := 11) (oi := ⟨some 160, _, _, _, _, _⟩) (v := undef) rfl (by kernel_rfl) (by kernel_rfl) (by kernel_rfl) (fun _ _ _ h => h) (Or.inr ⟨by rfl, rfl⟩) (by assumption) ?_
                    simp only [Act.put, List.setIfInBounds_toArray, List.set_cons_zero, List.set_cons_succ]
                    refine wpAnyH_take (i := 12) (oi := ⟨some 161, _, _, _, _, _⟩) (v := undef) rfl (by kernel_rfl) (by kernel_rfl) (by kernel_rfl) (fun _ _ _ h => h) (Or.inr ⟨by rfl, rfl⟩) (by assumption) ?_
                    simp only [Act.put, List.setIfInBounds_toArray, List.set_cons_zero, List.set_cons_succ]
                    refine wpAnyH_take (i := 13) (oi := ⟨some 162, _, _, _, _, _⟩) (v := undef) rfl (by kernel_rfl) (by kernel_rfl) (by kernel_rfl) (fun _ _ _ h => h) (Or.inr ⟨by rfl, rfl⟩) (by assumption) ?_
                    simp only [Act.put, List.setIfInBounds_toArray, List.set_cons_zero, List.set_cons_succ]
                    refine wpAnyH_take (i := 14) (oi := ⟨some 163, _, _, _, _, _⟩) (v := undef) rfl (by kernel_rfl) (by kernel_rfl) (by kernel_rfl) (fun _ _ _ h => h) (Or.inr ⟨by rfl, rfl⟩) (by assumption) ?_
                    simp only [Act.put, List.setIfInBounds_toArray, List.set_cons_zero, List.set_cons_succ]
                    refine wpAnyH_take (i := 15) (oi := ⟨some 164, _, _, _, _, _⟩) (v := undef) rfl (by kernel_rfl) (by kernel_rfl) (by kernel_rfl) (fun _ _ _ h => h) (Or.inr ⟨by rfl, rfl⟩) (by assumption) ?_
                    simp only [Act.put, List.setIfInBounds_toArray, List.set_cons_zero, List.set_cons_succ]
                    refine wpAnyH_take (i := 16) (oi := ⟨some 165, _, _, _, _, _⟩) (v := undef) rfl (by kernel_rfl) (by kernel_rfl) (by kernel_rfl) (fun _ _ _ h => h) (Or.inr ⟨by rfl, rfl⟩) (by assumption) ?_
                    simp only [Act.put, List.setIfInBounds_toArray, List.set_cons_zero, List.set_cons_succ]
                    refine wpAnyH_take (i := 17) (oi := ⟨some 166, _, _, _, _, _⟩) (v := undef) rfl (by kernel_rfl) (by kernel_rfl) (by kernel_rfl) (fun _ _ _ h => h) (Or.inr ⟨by rfl, rfl⟩) (by assumption) ?_
                    simp only [Act.put, List.setIfInBounds_toArray, List.set_cons_zero, List.set_cons_succ]
                    refine wpAnyH_take (i := 18) (oi := ⟨some 167, _, _, _, _, _⟩) (v := .bool false) rfl (by kernel_rfl) (by kernel_rfl) (by kernel_rfl) (fun _ _ _ h => h) (Or.inl ⟨by rfl, ?_⟩) (by assumption) ?_
                    · intro w hSw; (try dsimp only at hSw); go_simp
                    simp only [Act.put, List.setIfInBounds_toArray, List.set_cons_zero, List.set_cons_succ]
                    refine wpAnyH_take (i := 19) (oi := ⟨some 168, _, _, _, _, _⟩) (v := .bool false) rfl (by kernel_rfl) (by kernel_rfl) (by kernel_rfl) (fun _ _ _ h => h) (Or.inl ⟨by rfl, ?_⟩) (by assumption) ?_
                    · intro w hSw; (try dsimp only at hSw); go_simp
                    simp only [Act.put, List.setIfInBounds_toArray, List.set_cons_zero, List.set_cons_succ]
                    refine wpAnyH_take (i := 20) (oi := ⟨some 169, _, _, _, _, _⟩) (v := .bool false) rfl (by kernel_rfl) (by kernel_rfl) (by kernel_rfl) (fun _ _ _ h => h) (Or.inl ⟨by rfl, ?_⟩) (by assumption) ?_
                    · intro w hSw; (try dsimp only at hSw); go_simp
                    simp only [Act.put, List.setIfInBounds_toArray, List.set_cons_zero, List.set_cons_succ]
                    refine wpAnyH_take (i := 21) (oi := ⟨some 170, _, _, _, _, _⟩) (v := .bool false) rfl (by kernel_rfl) (by kernel_rfl) (by kernel_rfl) (fun _ _ _ h => h) (Or.inl ⟨by rfl, ?_⟩) (by assumption) ?_
                    · intro w hSw; (try dsimp only at hSw); go_simp
                    simp only [Act.put, List.setIfInBounds_toArray, List.set_cons_zero, List.set_cons_succ]
                    refine wpAnyH_take (i := 22) (oi := ⟨some 171, _, _, _, _, _⟩) (v := .bool true) rfl (by kernel_rfl) (by kernel_rfl) (by kernel_rfl) (fun _ _ _ h => h) (Or.inl ⟨by rfl, ?_⟩) (by assumption) ?_
                    · intro w hSw; (try dsimp only at hSw); go_simp
                    simp only [Act.put, List.setIfInBounds_toArray, List.set_cons_zero, List.set_cons_succ]
                    refine wpAnyH_take (i := 23) (oi := ⟨some 172, _, _, _, _, _⟩) (v := .bool true) rfl (by kernel_rfl) (by kernel_rfl) (by kernel_rfl) (fun _ _ _ h => h) (Or.inl ⟨by rfl, ?_⟩) (by assumption) ?_
                    · intro w hSw; (try dsimp only at hSw); go_simp
                    simp only [Act.put, List.setIfInBounds_toArray, List.set_cons_zero, List.set_cons_succ]
                    refine wpAnyH_take (i := 24) (oi := ⟨some 173, _, _, _, _, _⟩) (v := .agg #[.int .i64 X.kind, .int .i64 X.frm, .int .i64 X.to, .int .i64 X.a, .int .i64 X.b, .int .i64 X.c, .int .i64 X.d, .string X.s, .string X.t, .slice Xp X.ps.length cx, .slice Xi X.is.length dx, .int .i64 X.code, .bool X.yes, .string X.body]) rfl (by kernel_rfl) (by kernel_rfl) (by kernel_rfl) (fun _ _ _ h => h) (Or.inl ⟨by rfl, ?_⟩) (by assumption) ?_
                    · intro w hSw; (try dsimp only at hSw); go_simp
                    simp only [Act.put, List.setIfInBounds_toArray, List.set_cons_zero, List.set_cons_succ]
                    refine wpAnyH_take (i := 25) (oi := ⟨some 174, _, _, _, _, _⟩) (v := .agg #[.int .i64 0, .int .i64 0, .int .i64 0, .int .i64 0, .int .i64 0, .int .i64 0, .int .i64 0, .string ⟨#[]⟩, .string ⟨#[]⟩, .slice none 0 0, .slice none 0 0, .int .i64 0, .bool false, .string ⟨#[]⟩]) rfl (by kernel_rfl) (by kernel_rfl) (by kernel_rfl) (fun _ _ _ h => h) (Or.inl ⟨by rfl, ?_⟩) (by assumption) ?_
                    · intro w hSw; (try dsimp only at hSw); go_simp
                    simp only [Act.put, List.setIfInBounds_toArray, List.set_cons_zero, List.set_cons_succ]
                    refine wpAnyH_ready (rs := [26]) (by kernel_rfl) (by simp) (AllReadyH.cons (o := ⟨some 175, _, _, _, _, _⟩) rfl (fun K hK => ?_) AllReadyH.nil)
                    go_simp
                    refine (HS.out _ ((Below.refl w9.heap.size w9).drew)).mono ?_
                    rintro e z1 ⟨rfl, hz1⟩
                    have Hz1 : Hid (Below w9.heap.size w9 z1) := Lib.hid (((Below.refl w9.heap.size w9).drew).trans (hz1.mono ((Below.refl w9.heap.size w9).drew).size))
                    clear hz1
                    refine hK.out _ _ (HX.out z1 Hz1.out) (fun _ => ?_)
                    clear hK K
                    refine wpAnyH_take (i := 27) (oi := ⟨some 176, _, _, _, _, _⟩) (v := .bool false) rfl (by kernel_rfl) (by kernel_rfl) (by kernel_rfl) (fun _ _ _ h => h) (Or.inl ⟨by rfl, ?_⟩) (by assumption) ?_
                    · intro w hSw; (try dsimp only at hSw); go_simp
                    simp only [Act.put, List.setIfInBounds_toArray, List.set_cons_zero, List.set_cons_succ]
                    refine wpAnyH_take (i := 28) (oi := ⟨some 177, _, _, _, _, _⟩) (v := .bool false) rfl (by kernel_rfl) (by kernel_rfl) (by kernel_rfl) (fun _ _ _ h => h) (Or.inl ⟨by rfl, ?_⟩) (by assumption) ?_
                    · intro w hSw; (try dsimp only at hSw); go_simp
                    simp only [Act.put, List.setIfInBounds_toArray, List.set_cons_zero, List.set_cons_succ]
                    refine wpAnyH_take (i := 29) (oi := ⟨some 178, _, _, _, _, _⟩) (v := .bool false) rfl (by kernel_rfl) (by kernel_rfl) (by kernel_rfl) (fun _ _ _ h => h) (Or.inl ⟨by rfl, ?_⟩) (by assumption) ?_
                    · intro w hSw; (try dsimp only at hSw); go_simp
                    simp only [Act.put, List.setIfInBounds_toArray, List.set_cons_zero, List.set_cons_succ]
                    refine wpAnyH_done (by kernel_rfl) ?_ _
                    go_wp2
                    go_meet
                    exact ⟨rfl, Hz1⟩
                case rest =>
                  obtain ⟨rfl, HBc⟩ := hcut
                  have HF := Lib.hid (And.intro (HP.out.1.next HBc.out) HP.out.2)
                  clear HX HS HSX HP HBc
                  go_wp2
                  go_meet
                  exact ⟨d, E, R, rfl, by omega, by omega, HF⟩
              · have HS := Lib.hid hS
                clear hS
                have i0 : (0 : Int) ≤ (i : Int) := by omega
                have i1 : (i : Int) < (N : Int) := by omega
                have HX : Hid (∀ wy, Below w9.heap.size w9 wy → ((wy.cell? ⟨w7.heap.size, 0, none⟩ = some (.int .i64 X.kind) ∧ wy.cell? ⟨w7.heap.size, 1, none⟩ = some (.int .i64 X.frm) ∧ wy.cell? ⟨w7.heap.size, 2, none⟩ = some (.int .i64 X.to) ∧ wy.cell? ⟨w7.heap.size, 3, none⟩ = some (.int .i64 X.a) ∧ wy.cell? ⟨w7.heap.size, 4, none⟩ = some (.int .i64 X.b) ∧ wy.cell? ⟨w7.heap.size, 5, none⟩ = some (.int .i64 X.c) ∧ wy.cell? ⟨w7.heap.size, 6, none⟩ = some (.int .i64 X.d) ∧ wy.cell? ⟨w7.heap.size, 7, none⟩ = some (.string X.s) ∧ wy.cell? ⟨w7.heap.size, 8, none⟩ = some (.string X.t) ∧ wy.cell? ⟨w7.heap.size, 9, none⟩ = some (.slice Xp X.ps.length cx) ∧ wy.cell? ⟨w7.heap.size, 10, none⟩ = some (.slice Xi X.is.length dx) ∧ wy.cell? ⟨w7.heap.size, 11, none⟩ = some (.int .i64 X.code) ∧ wy.cell? ⟨w7.heap.size, 12, none⟩ = some (.bool X.yes) ∧ wy.cell? ⟨w7.heap.size, 13, none⟩ = some (.string X.body)) ∧ (wy.cell? ⟨rb, 0, none⟩ = some (.slice (some a2) N cap) ∧ wy.cell? ⟨(a2.add (i * 15)).block, (a2.add (i * 15)).off + 1, none⟩ = some (.int .i64 X.kind) ∧ wy.cell? ⟨(a2.add (i * 15)).block, (a2.add (i * 15)).off + 2, none⟩ = some (.int .i64 X.frm) ∧ wy.cell? ⟨(a2.add (i * 15)).block, (a2.add (i * 15)).off + 3, none⟩ = some (.int .i64 X.to) ∧ wy.cell? ⟨(a2.add (i * 15)).block, (a2.add (i * 15)).off + 4, none⟩ = some (.int .i64 X.a) ∧ wy.cell? ⟨(a2.add (i * 15)).block, (a2.add (i * 15)).off + 5, none⟩ = some (.int .i64 X.b) ∧ wy.cell? ⟨(a2.add (i * 15)).block, (a2.add (i * 15)).off + 6, none⟩ = some (.int .i64 X.c) ∧ wy.cell? ⟨(a2.add (i * 15)).block, (a2.add (i * 15)).off + 7, none⟩ = some (.int .i64 X.d) ∧ wy.cell? ⟨(a2.add (i * 15)).block, (a2.add (i * 15)).off + 8, none⟩ = some (.string X.s) ∧ wy.cell? ⟨(a2.add (i * 15)).block, (a2.add (i * 15)).off + 9, none⟩ = some (.string X.t) ∧ wy.cell? ⟨(a2.add (i * 15)).block, (a2.add (i * 15)).off + 10, none⟩ = some (.slice Yp X.ps.length cy) ∧ wy.cell? ⟨(a2.add (i * 15)).block, (a2.add (i * 15)).off + 11, none⟩ = some (.slice Yi X.is.length dy) ∧ wy.cell? ⟨(a2.add (i * 15)).block, (a2.add (i * 15)).off + 12, none⟩ = some (.int .i64 X.code) ∧ wy.cell? ⟨(a2.add (i * 15)).block, (a2.add (i * 15)).off + 13, none⟩ = some (.bool X.yes) ∧ wy.cell? ⟨(a2.add (i * 15)).block, (a2.add (i * 15)).off + 14, none⟩ = some (.string X.body)))) := Lib.hid fun wy hy => by
                  have b := HSX.out wy hy
                  exact ⟨⟨b.cell 0, b.cell 1, b.cell 2, b.cell 3, b.cell 4, b.cell 5, b.cell 6, b.cell 7, b.cell 8, b.cell 9, b.cell 10, b.cell 11, b.cell 12, b.cell 13⟩, (HS.out wy hy).1⟩
                go_upto_region 35 with fail
                go_cut [178] (fun t wx => t = .bool false ∧ Hid (Below w9.heap.size w9 wx))
                case first =>
                  as_aux_lemma =>
                    refine wp_region_held_drew (S := (fun wy => ((wy.cell? ⟨w7.heap.size, 0, none⟩ = some (.int .i64 X.kind) ∧ wy.cell? ⟨w7.heap.size, 1, none⟩ = some (.int .i64 X.frm) ∧ wy.cell? ⟨w7.heap.size, 2, none⟩ = some (.int .i64 X.to) ∧ wy.cell? ⟨w7.heap.size, 3, none⟩ = some (.int .i64 X.a) ∧ wy.cell? ⟨w7.heap.size, 4, none⟩ = some (.int .i64 X.b) ∧ wy.cell? ⟨w7.heap.size, 5, none⟩ = some (.int .i64 X.c) ∧ wy.cell? ⟨w7.heap.size, 6, none⟩ = some (.int .i64 X.d) ∧ wy.cell? ⟨w7.heap.size, 7, none⟩ = some (.string X.s) ∧ wy.cell? ⟨w7.heap.size, 8, none⟩ = some (.string X.t) ∧ wy.cell? ⟨w7.heap.size, 9, none⟩ = some (.slice Xp X.ps.length cx) ∧ wy.cell? ⟨w7.heap.size, 10, none⟩ = some (.slice Xi X.is.length dx) ∧ wy.cell? ⟨w7.heap.size, 11, none⟩ = some (.int .i64 X.code) ∧ wy.cell? ⟨w7.heap.size, 12, none⟩ = some (.bool X.yes) ∧ wy.cell? ⟨w7.heap.size, 13, none⟩ = some (.string X.body)) ∧ (wy.cell? ⟨rb, 0, none⟩ = some (.slice (some a2) N cap) ∧ wy.cell? ⟨(a2.add (i * 15)).block, (a2.add (i * 15)).off + 1, none⟩ = some (.int .i64 X.kind) ∧ wy.cell? ⟨(a2.add (i * 15)).block, (a2.add (i * 15)).off + 2, none⟩ = some (.int .i64 X.frm) ∧ wy.cell? ⟨(a2.add (i * 15)).block, (a2.add (i * 15)).off + 3, none⟩ = some (.int .i64 X.to) ∧ wy.cell? ⟨(a2.add (i * 15)).block, (a2.add (i * 15)).off + 4, none⟩ = some (.int .i64 X.a) ∧ wy.cell? ⟨(a2.add (i * 15)).block, (a2.add (i * 15)).off + 5, none⟩ = some (.int .i64 X.b) ∧ wy.cell? ⟨(a2.add (i * 15)).block, (a2.add (i * 15)).off + 6, none⟩ = some (.int .i64 X.c) ∧ wy.cell? ⟨(a2.add (i * 15)).block, (a2.add (i * 15)).off + 7, none⟩ = some (.int .i64 X.d) ∧ wy.cell? ⟨(a2.add (i * 15)).block, (a2.add (i * 15)).off + 8, none⟩ = some (.string X.s) ∧ wy.cell? ⟨(a2.add (i * 15)).block, (a2.add (i * 15)).off + 9, none⟩ = some (.string X.t) ∧ wy.cell? ⟨(a2.add (i * 15)).block, (a2.add (i * 15)).off + 10, none⟩ = some (.slice Yp X.ps.length cy) ∧ wy.cell? ⟨(a2.add (i * 15)).block, (a2.add (i * 15)).off + 11, none⟩ = some (.slice Yi X.is.length dy) ∧ wy.cell? ⟨(a2.add (i * 15)).block, (a2.add (i * 15)).off + 12, none⟩ = some (.int .i64 X.code) ∧ wy.cell? ⟨(a2.add (i * 15)).block, (a2.add (i * 15)).off + 13, none⟩ = some (.bool X.yes) ∧ wy.cell? ⟨(a2.add (i * 15)).block, (a2.add (i * 15)).off + 14, none⟩ = some (.string X.body))))) (by kernel_rfl) (HX.out _ (Below.refl _ _).drew) (fun hHeld => ?_)
                    refine wpAnyH_take (i := 0) (oi := ⟨some 149, _, _, _, _, _⟩) (v := .bool true) rfl (by kernel_rfl) (by kernel_rfl) (by kernel_rfl) (fun _ _ _ h => h) (Or.inl ⟨by rfl, ?_⟩) (by assumption) ?_
                    · intro w hSw; (try dsimp only at hSw); go_simp
                    simp only [Act.put, List.setIfInBounds_toArray, List.set_cons_zero, List.set_cons_succ]
                    refine wpAnyH_take (i := 1) (oi := ⟨some 150, _, _, _, _, _⟩) (v := .int .i64 (i : Int)) rfl (by kernel_rfl) (by kernel_rfl) (by kernel_rfl) (fun _ _ _ h => h) (Or.inl ⟨by rfl, ?_⟩) (by assumption) ?_
                    · intro w hSw; (try dsimp only at hSw); go_simp
                    simp only [Act.put, List.setIfInBounds_toArray, List.set_cons_zero, List.set_cons_succ]
                    refine wpAnyH_take (i := 2) (oi := ⟨some 151, _, _, _, _, _⟩) (v := .bool true) rfl (by kernel_rfl) (by kernel_rfl) (by kernel_rfl) (fun _ _ _ h => h) (Or.inl ⟨by rfl, ?_⟩) (by assumption) ?_
                    · intro w hSw; (try dsimp only at hSw); go_simp
                    simp only [Act.put, List.setIfInBounds_toArray, List.set_cons_zero, List.set_cons_succ]
                    refine wpAnyH_take (i := 3) (oi := ⟨some 152, _, _, _, _, _⟩) (v := .bool false) rfl (by kernel_rfl) (by kernel_rfl) (by kernel_rfl) (fun _ _ _ h => h) (Or.inl ⟨by rfl, ?_⟩) (by assumption) ?_
                    · intro w hSw; (try dsimp only at hSw); go_simp
                    simp only [Act.put, List.setIfInBounds_toArray, List.set_cons_zero, List.set_cons_succ]
                    refine wpAnyH_take (i := 4) (oi := ⟨some 153, _, _, _, _, _⟩) (v := .bool false) rfl (by kernel_rfl) (by kernel_rfl) (by kernel_rfl) (fun _ _ _ h => h) (Or.inl ⟨by rfl, ?_⟩) (by assumption) ?_
                    · intro w hSw; (try dsimp only at hSw); go_simp
                    simp only [Act.put, List.setIfInBounds_toArray, List.set_cons_zero, List.set_cons_succ]
                    refine wpAnyH_take (i := 5) (oi := ⟨some 154, _, _, _, _, _⟩) (v := .bool true) rfl (by kernel_rfl) (by kernel_rfl) (by kernel_rfl) (fun _ _ _ h => h) (Or.inl ⟨by rfl, ?_⟩) (by assumption) ?_
                    · intro w hSw; (try dsimp only at hSw); go_simp
                    simp only [Act.put, List.setIfInBounds_toArray, List.set_cons_zero, List.set_cons_succ]
                    refine wpAnyH_take (i := 6) (oi := ⟨some 155, _, _, _, _, _⟩) (v := .bool true) rfl (by kernel_rfl) (by kernel_rfl) (by kernel_rfl) (fun _ _ _ h => h) (Or.inl ⟨by rfl, ?_⟩) (by assumption) ?_
                    · intro w hSw; (try dsimp only at hSw); go_simp
                    simp only [Act.put, List.setIfInBounds_toArray, List.set_cons_zero, List.set_cons_succ]
                    refine wpAnyH_take (i := 7) (oi := ⟨some 156, _, _, _, _, _⟩) (v := .agg #[.int .i64 X.kind, .int .i64 X.frm, .int .i64 X.to, .int .i64 X.a, .int .i64 X.b, .int .i64 X.c, .int .i64 X.d, .string X.s, .string X.t, .slice Xp X.ps.length cx, .slice Xi X.is.length dx, .int .i64 X.code, .bool X.yes, .string X.body]) rfl (by kernel_rfl) (by kernel_rfl) (by kernel_rfl) (fun _ _ _ h => h) (Or.inl ⟨by rfl, ?_⟩) (by assumption) ?_
                    · intro w hSw; (try dsimp only at hSw); go_simp
                    simp only [Act.put, List.setIfInBounds_toArray, List.set_cons_zero, List.set_cons_succ]
                    refine wpAnyH_take (i := 8) (oi := ⟨some 157, _, _, _, _, _⟩) (v := .pointer (some ⟨rb, 0, none⟩)) rfl (by kernel_rfl) (by kernel_rfl) (by kernel_rfl) (fun _ _ _ h => h) (Or.inl ⟨by rfl, ?_⟩) (by assumption) ?_
                    · intro w hSw; (try dsimp only at hSw); go_simp
                    simp only [Act.put, List.setIfInBounds_toArray, List.set_cons_zero, List.set_cons_succ]
                    refine wpAnyH_take (i := 9) (oi := ⟨some 158, _, _, _, _, _⟩) (v := .pointer (some ⟨rb, 0, none⟩)) rfl (by kernel_rfl) (by kernel_rfl) (by kernel_rfl) (fun _ _ _ h => h) (Or.inl ⟨by rfl, ?_⟩) (by assumption) ?_
                    · intro w hSw; (try dsimp only at hSw); go_simp
                    simp only [Act.put, List.setIfInBounds_toArray, List.set_cons_zero, List.set_cons_succ]
                    refine wpAnyH_take (i := 10) (oi := ⟨some 159, _, _, _, _, _⟩) (v := .pointer (some ⟨rb, 0, none⟩)) rfl (by kernel_rfl) (by kernel_rfl) (by kernel_rfl) (fun _ _ _ h => h) (Or.inl ⟨by rfl, ?_⟩) (by assumption) ?_
                    · intro w hSw; (try dsimp only at hSw); go_simp
                    simp only [Act.put, List.setIfInBounds_toArray, List.set_cons_zero, List.set_cons_succ]
                    refine wpAnyH_take (i := 11) (oi := ⟨some 160, _, _, _, _, _⟩) (v := .slice (some a2) N cap) rfl (by kernel_rfl) (by kernel_rfl) (by kernel_rfl) (fun _ _ _ h => h) (Or.inl ⟨by rfl, ?_⟩) (by assumption) ?_
                    · intro w hSw; (try dsimp only at hSw); go_simp
                    simp only [Act.put, List.setIfInBounds_toArray, List.set_cons_zero, List.set_cons_succ]
                    refine wpAnyH_take (i := 12) (oi := ⟨some 161, _, _, _, _, _⟩) (v := .int .i64 (i : Int)) rfl (by kernel_rfl) (by kernel_rfl) (by kernel_rfl) (fun _ _ _ h => h) (Or.inl ⟨by rfl, ?_⟩) (by assumption) ?_
                    · intro w hSw; (try dsimp only at hSw); go_simp
                    simp only [Act.put, List.setIfInBounds_toArray, List.set_cons_zero, List.set_cons_succ]
                    refine wpAnyH_take (i := 13) (oi := ⟨some 162, _, _, _, _, _⟩) (v := .pointer (some (a2.add (i * 15)))) rfl (by kernel_rfl) (by kernel_rfl) (by kernel_rfl) (fun _ _ _ h => h) (Or.inl ⟨by rfl, ?_⟩) (by assumption) ?_
                    · intro w hSw; (try dsimp only at hSw); go_simp
                    simp only [Act.put, List.setIfInBounds_toArray, List.set_cons_zero, List.set_cons_succ]
                    refine wpAnyH_take (i := 14) (oi := ⟨some 163, _, _, _, _, _⟩) (v := .pointer (some ⟨(a2.add (i * 15)).block, (a2.add (i * 15)).off + 1, none⟩)) rfl (by kernel_rfl) (by kernel_rfl) (by kernel_rfl) (fun _ _ _ h => h) (Or.inl ⟨by rfl, ?_⟩) (by assumption) ?_
                    · intro w hSw; (try dsimp only at hSw); go_simp
                    simp only [Act.put, List.setIfInBounds_toArray, List.set_cons_zero, List.set_cons_succ]
                    refine wpAnyH_take (i := 15) (oi := ⟨some 164, _, _, _, _, _⟩) (v := .agg #[.int .i64 X.kind, .int .i64 X.frm, .int .i64 X.to, .int .i64 X.a, .int .i64 X.b, .int .i64 X.c, .int .i64 X.d, .string X.s, .string X.t, .slice Yp X.ps.length cy, .slice Yi X.is.length dy, .int .i64 X.code, .bool X.yes, .string X.body]) rfl (by kernel_rfl) (by kernel_rfl) (by kernel_rfl) (fun _ _ _ h => h) (Or.inl ⟨by rfl, ?_⟩) (by assumption) ?_
                    · intro w hSw; (try dsimp only at hSw); go_simp
                    simp only [Act.put, List.setIfInBounds_toArray, List.set_cons_zero, List.set_cons_succ]
                    refine wpAnyH_ready (rs := [16]) (by kernel_rfl) (by simp) (AllReadyH.cons (o := ⟨some 165, _, _, _, _, _⟩) rfl (fun K hK => ?_) AllReadyH.nil)
                    go_simp
                    refine (HS.out _ ((Below.refl w9.heap.size w9).drew)).2.mono ?_
                    rintro e z1 ⟨rfl, hz1⟩
                    have Hz1 : Hid (Below w9.heap.size w9 z1) := Lib.hid (((Below.refl w9.heap.size w9).drew).trans (hz1.mono ((Below.refl w9.heap.size w9).drew).size))
                    clear hz1
                    refine hK.out _ _ (HX.out z1 Hz1.out) (fun _ => ?_)
                    clear hK K
                    refine wpAnyH_take (i := 17) (oi := ⟨some 166, _, _, _, _, _⟩) (v := .bool false) rfl (by kernel_rfl) (by kernel_rfl) (by kernel_rfl) (fun _ _ _ h => h) (Or.inl ⟨by rfl, ?_⟩) (by assumption) ?_
                    · intro w hSw; (try dsimp only at hSw); go_simp
                    simp only [Act.put, List.setIfInBounds_toArray, List.set_cons_zero, List.set_cons_succ]
                    refine wpAnyH_take (i := 18) (oi := ⟨some 167, _, _, _, _, _⟩) (v := .bool false) rfl (by kernel_rfl) (by kernel_rfl) (by kernel_rfl) (fun _ _ _ h => h) (Or.inl ⟨by rfl, ?_⟩) (by assumption) ?_
                    · intro w hSw; (try dsimp only at hSw); go_simp
                    simp only [Act.put, List.setIfInBounds_toArray, List.set_cons_zero, List.set_cons_succ]
                    refine wpAnyH_take (i := 19) (oi := ⟨some 168, _, _, _, _, _⟩) (v := .bool false) rfl (by kernel_rfl) (by kernel_rfl) (by kernel_rfl) (fun _ _ _ h => h) (Or.inl ⟨by rfl, ?_⟩) (by assumption) ?_
                    · intro w hSw; (try dsimp only at hSw); go_simp
                    simp only [Act.put, List.setIfInBounds_toArray, List.set_cons_zero, List.set_cons_succ]
                    refine wpAnyH_take (i := 20) (oi := ⟨some 169, _, _, _, _, _⟩) (v := .bool false) rfl (by kernel_rfl) (by kernel_rfl) (by kernel_rfl) (fun _ _ _ h => h) (Or.inl ⟨by rfl, ?_⟩) (by assumption) ?_
                    · intro w hSw; (try dsimp only at hSw); go_simp
                    simp only [Act.put, List.setIfInBounds_toArray, List.set_cons_zero, List.set_cons_succ]
                    refine wpAnyH_take (i := 21) (oi := ⟨some 170, _, _, _, _, _⟩) (v := .bool true) rfl (by kernel_rfl) (by kernel_rfl) (by kernel_rfl) (fun _ _ _ h => h) (Or.inl ⟨by rfl, ?_⟩) (by assumption) ?_
                    · intro w hSw; (try dsimp only at hSw); go_simp
                    simp only [Act.put, List.setIfInBounds_toArray, List.set_cons_zero, List.set_cons_succ]
                    refine wpAnyH_take (i := 22) (oi := ⟨some 171, _, _, _, _, _⟩) (v := .bool false) rfl (by kernel_rfl) (by kernel_rfl) (by kernel_rfl) (fun _ _ _ h => h) (Or.inl ⟨by rfl, ?_⟩) (by assumption) ?_
                    · intro w hSw; (try dsimp only at hSw); go_simp
                    simp only [Act.put, List.setIfInBounds_toArray, List.set_cons_zero, List.set_cons_succ]
                    refine wpAnyH_take (i := 23) (oi := ⟨some 172, _, _, _, _, _⟩) (v := .bool false) rfl (by kernel_rfl) (by kernel_rfl) (by kernel_rfl) (fun _ _ _ h => h) (Or.inl ⟨by rfl, ?_⟩) (by assumption) ?_
                    · intro w hSw; (try dsimp only at hSw); go_simp
                    simp only [Act.put, List.setIfInBounds_toArray, List.set_cons_zero, List.set_cons_succ]
                    refine wpAnyH_take (i := 24) (oi := ⟨some 173, _, _, _, _, _⟩) (v := undef) rfl (by kernel_rfl) (by kernel_rfl) (by kernel_rfl) (fun _ _ _ h => h) (Or.inr ⟨by rfl, rfl⟩) (by assumption) ?_
                    simp only [Act.put, List.setIfInBounds_toArray, List.set_cons_zero, List.set_cons_succ]
                    refine wpAnyH_take (i := 25) (oi := ⟨some 174, _, _, _, _, _⟩) (v := undef) rfl (by kernel_rfl) (by kernel_rfl) (by kernel_rfl) (fun _ _ _ h => h) (Or.inr ⟨by rfl, rfl⟩) (by assumption) ?_
                    simp only [Act.put, List.setIfInBounds_toArray, List.set_cons_zero, List.set_cons_succ]
                    refine wpAnyH_take (i := 26) (oi := ⟨some 175, _, _, _, _, _⟩) (v := undef) rfl (by kernel_rfl) (by kernel_rfl) (by kernel_rfl) (fun _ _ _ h => h) (Or.inr ⟨by rfl, rfl⟩) (by assumption) ?_
                    simp only [Act.put, List.setIfInBounds_toArray, List.set_cons_zero, List.set_cons_succ]
                    refine wpAnyH_take (i := 27) (oi := ⟨some 176, _, _, _, _, _⟩) (v := undef) rfl (by kernel_rfl) (by kernel_rfl) (by kernel_rfl) (fun _ _ _ h => h) (Or.inr ⟨by rfl, rfl⟩) (by assumption) ?_
                    simp only [Act.put, List.setIfInBounds_toArray, List.set_cons_zero, List.set_cons_succ]
                    refine wpAnyH_take (i := 28) (oi := ⟨some 177, _, _, _, _, _⟩) (v := .bool false) rfl (by kernel_rfl) (by kernel_rfl) (by kernel_rfl) (fun _ _ _ h => h) (Or.inl ⟨by rfl, ?_⟩) (by assumption) ?_
                    · intro w hSw; (try dsimp only at hSw); go_simp
                    simp only [Act.put, List.setIfInBounds_toArray, List.set_cons_zero, List.set_cons_succ]
                    refine wpAnyH_take (i := 29) (oi := ⟨some 178, _, _, _, _, _⟩) (v := .bool false) rfl (by kernel_rfl) (by kernel_rfl) (by kernel_rfl) (fun _ _ _ h => h) (Or.inl ⟨by rfl, ?_⟩) (by assumption) ?_
                    · intro w hSw; (try dsimp only at hSw); go_simp
                    simp only [Act.put, List.setIfInBounds_toArray, List.set_cons_zero, List.set_cons_succ]
                    refine wpAnyH_done (by kernel_rfl) ?_ _
                    go_wp2
                    go_meet
                    exact ⟨rfl, Hz1⟩
                case rest =>
                  obtain ⟨rfl, HBc⟩ := hcut
                  have HF := Lib.hid (And.intro (HP.out.1.next HBc.out) HP.out.2)
                  clear HX HS HSX HP HBc
                  go_wp2
                  go_meet
                  exact ⟨d, E, R, rfl, by omega, by omega, HF⟩
          have e1 : (ok == 1) = false := by simpa using h1
          have e2 : (ok == 2) = false := by simpa using h2
          have e3 : (ok == 3) = false := by simpa using h3
          have e4 : (ok == 4) = false := by simpa using h4
          have e5 : (ok == 5) = false := by simpa using h5
          have HF := Lib.hid HE6.out.1
          clear x0 x1 x2 x3 x4 x5 x6 x7 x8 x9 x10 x11 x12 x13 x14 x15
          go_wp2
          go_meet
          exact ⟨d, E, R, rfl, by omega, by omega, HF⟩
        case rest =>
          obtain ⟨d', E', R', rfl, hd', hE', HF⟩ := hcut
          clear HE6 HL6 HLW HLet x0 x1 x2 x3 x4 x5 x6 x7 x8 x9 x10 x11 x12 x13 x14 x15
          obtain ⟨N, xs, Av, cap, hN, hxl, hU⟩ := under_twin HF.out.1 HF.out.2 (by omega)
          have HU := Lib.hid hU
          have Hxl := Lib.hid hxl
          have hnn : ((N : Int) != (N : Int)) = false := by simp
          have HK : Hid (∀ wy, Below wc.heap.size wc wy → wy.cell? ⟨rb, 0, none⟩ = some (.slice Av N cap)) := Lib.hid fun wy hy => (HU.out wy hy).2.2.2
          clear hU hxl
          go_upto_region 37 with fail
          go_cut [194] (fun t wx => t = .bool false ∧ Hid (Below wc.heap.size wc wx))
          case first =>
            as_aux_lemma =>
              go_region_held3 (fun wy => wy.cell? ⟨rb, 0, none⟩ = some (.slice Av N cap))
                (first | exact HK.out _ (Below.refl _ _).drew | exact HK.out _ (Below.refl _ _) | exact HK.out _ b4 | exact HK.out _ b3 | exact HK.out _ b2 | exact HK.out _ bn | exact HK.out _ bm)
                (first
                  | (go_at_call 32; refine (HU.out _ bm).1.mono ?_; rintro e wb ⟨An, cn, rfl, on2, hb2⟩; have b2 : Below wc.heap.size wc wb := bm.trans (hb2.mono bm.size); have On2 := Lib.hid on2; have Om2 := Lib.hid (own_belowN Om.out hb2); clear on2 hb2)
                  | (go_at_call 33; refine (HU.out _ bn).2.1.mono ?_; rintro e wb ⟨Am, cm, rfl, om2, hb2⟩; have b2 : Below wc.heap.size wc wb := bn.trans (hb2.mono bn.size); have Om2 := Lib.hid om2; have On2 := Lib.hid (own_belowN On.out hb2); clear om2 hb2)
                  | (go_at_call 32; refine (HU.out _ (Below.refl _ _).drew).1.mono ?_; rintro e wa ⟨An, cn, rfl, on1, hb1⟩; have bn : Below wc.heap.size wc wa := (Below.refl wc.heap.size wc).drew.trans hb1; have On := Lib.hid on1; clear on1 hb1)
                  | (go_at_call 33; refine (HU.out _ (Below.refl _ _).drew).2.1.mono ?_; rintro e wa ⟨Am, cm, rfl, om1, hb1⟩; have bm : Below wc.heap.size wc wa := (Below.refl wc.heap.size wc).drew.trans hb1; have Om := Lib.hid om1; clear om1 hb1)
                  | (go_at_call 31; refine (sameInts_yes On2.out Om2.out Hxl.out hN).mono ?_; rintro e wd ⟨rfl, hb3⟩; have b3 : Below wc.heap.size wc wd := b2.trans (hb3.mono b2.size); clear hb3)
                  | (go_at_call 34; refine (HU.out _ b3).2.2.1.mono ?_; rintro e we ⟨rfl, hb4⟩; have b4 : Below wc.heap.size wc we := b3.trans (hb4.mono b3.size); clear hb4))
              all_goals go_wp2
              all_goals go_meet
              all_goals exact ⟨rfl, Lib.hid b4⟩
          case rest =>
            rename_i wcc hcut2
            obtain ⟨rfl, HBc⟩ := hcut
            have HF2 := Lib.hid (And.intro (HF.out.1.next HBc.out) HF.out.2)
            go_wp2
            go_roundw
            case rel => exact ⟨k + 1, d', E', R', by omega, by omega, by omega, by go_num, HF2⟩
            case measure => simp [intOf]; omega
    · have HB := Lib.hid HE.out.1.below
      go_wp2
      go_ret
      exact ⟨rfl, HB.out⟩

namespace lawNetPlays
open Go.ChangeShapes Go.WideShapes Go.ChangeAt

theorem own : ownKnob Try.prog.godebug = none := by kernel_rfl
theorem kids : Kids Try.prog (· < Try.prog.types.size) := kids_rows (by kernel_rfl) (by kernel_rfl)
theorem full : ∀ t e, t < Try.prog.types.size → Try.prog.underlying t = some (.slice e) → 0 < Try.prog.cellsOf e := slices_full_of Try.prog (by kernel_rfl)

set_option maxRecDepth 100000 in
theorem lifted (os : Os) (started : os.Started) (H : Type) (enc : TypeId × Value → H) :
    ReturnsInHanded {} Try.checked os 6 .any (Rows.netPlaysSpec.pre6 enc Try.prog Try.f6 Rows.netPlaysRow.domain false) (Rows.netPlaysSpec.post enc Try.prog Try.f6 false true false false) := by
  refine returnsInHanded_of_change_sized (C := Try.checked) own started (by kernel_rfl) Try.func6
    (ChangeSpec.witness6 (enc := enc) (C := Try.checked) false ⟨#[], #[.slice none 0 0], []⟩ 8 (by kernel_rfl) (by kernel_rfl) (by kernel_rfl) (by kernel_rfl)) ?_
  intro W base args ds gs before hval0 hW _ hz _
  have hval : ∀ (j : Nat) t v, Try.f6.params[j]? = some t → args[j]? = some v → Value.okWide Try.prog W .any base t v := hval0
  have hW' := hW
  obtain ⟨p, q, hA0, hV, rfl, _, _⟩ := hW
  obtain ⟨rfl, rfl⟩ := trodVars_none hV
  have hA : DataW.TrodAll enc Try.prog W 0 (fun _ => true) true Try.f6.params.toList args.toList ds p := hA0
  rw [Try.params6] at hA hval
  obtain ⟨v0, vs0, d0, ds0, p0, q0, hargs, rfl, rfl, h0, r0⟩ := trodAll_cons hA
  obtain ⟨rfl, rfl, rfl⟩ := trodAll_nil r0
  obtain rfl : args = #[v0] := by cases args; simp_all
  have hlt := hW'.lt
  obtain ⟨A0, n0, c0, l0, rfl, hnc0, hm0, ha0⟩ := open_actsN (hval 0 41 v0 rfl rfl) h0 (fun k hk => of_decide_eq_true (List.all_eq_true.1 hz _ (DataW.weights_mem_each (j := 0) (d := d0) rfl rfl k hk))) (fun x hx => hlt x (by simp [hx]))
  refine (plays_walk A0 n0 c0 l0 W.heap.size W ha0 (Nat.le_refl _) (Nat.le_trans hnc0 hm0)).mono fun e W' ⟨he, hbel⟩ => ?_
  subst he
  exact ⟨_, rfl, law_post kids full (of_decide_eq_true (by kernel_rfl)) Try.underlying4 rfl rfl rfl hW' hbel⟩

theorem proved : Rows.NetPlaysSaid :=
  OpenClaim.holds_of_wide 6 Try.f6 rfl rfl rfl rfl rfl rfl rfl ⟨rfl, rfl, rfl, rfl, rfl⟩ rfl rfl rfl rfl rfl (by kernel_rfl) Try.func6 (by kernel_rfl)
    (of_decide_eq_true (by kernel_rfl)) (by unfold Func.isWrapper; first | (rw [if_pos (by decide +kernel)]; kernel_rfl) | (rw [if_neg (by decide +kernel)]; exact ⟨rfl, rfl⟩))
    (fun os started H enc _ => lifted os started H enc)
end lawNetPlays

end Go.Proofs.Ytabcoidjbigdbaa

/- Arguments that are rows of changes, rows of those, or a range, opened. -/
import Derived.Test.YteioopcacpihpaaRows
import Derived.ProofKit
import Derived.OpenShut
import Derived.Below
import Derived.Deep.CondSized
import Derived.Test.YteioopcacpihpaaMem
import Derived.SliceStrings
import Derived.Test.YteioopcacpihpaaChgE
import Derived.Deep.Slices
namespace Go.Proofs.Yteioopcacpihpaa
open Go.ChangeShapes Go.WideShapes Go.ChangeAt Go.RowKit

section
variable {H : Type} {enc : TypeId × Value → H} {P : Program}
theorem trodAll_stays {W W' : World} {base : Nat} {sp : Nat → Bool} {held : Bool} : ∀ {ts : List TypeId} {vs : List Value} {ds : List (DataW H)} {ps : List MemPlace},
    DataW.TrodAll enc P W base sp held ts vs ds ps → (∀ p ∈ ps, W.sameAt W' p) → DataW.TrodAll enc P W' base sp held ts vs ds ps
  | [], [], [], _, h, _ => h
  | t :: ts, v :: vs, d :: ds, ps, h, hs => by
    obtain ⟨p, q, ⟨n, h1⟩, h2, rfl⟩ := h
    exact ⟨p, q, ⟨n, DataW.trod_carry n t _ _ h1 fun x hx => hs x (List.mem_append_left _ hx)⟩, trodAll_stays h2 fun x hx => hs x (List.mem_append_right _ hx), rfl⟩

theorem law_post {fn : Func} {s : ChangeSpec} {W W' : World} {args : Array Value} {ds gs : List (DataW H)} {before : List MemPlace} {tb : TypeId}
    (K : Kids P (· < P.types.size)) (full : ∀ t e, t < P.types.size → P.underlying t = some (.slice e) → 0 < P.cellsOf e) (hts : ∀ t ∈ fn.params.toList, t < P.types.size)
    (hbool : P.underlying tb = some .bool) (hres : fn.resultTypes = #[tb]) (hvars : s.vars = [])
    (hfn : s.fn H ds = { results := [.lit (.bool true)], args := ds }) (hW : DataW.Whole enc P fn.params.toList s.vars false W args.toList ds gs before) (hb : Below W.heap.size W W') :
    s.post enc P fn false true false false W args (.bool true) W' := by
  have hlt := hW.lt
  have hW0 := hW
  rw [hvars] at hW0
  obtain ⟨p, q, hA, hV, rfl, _, _⟩ := hW0
  obtain ⟨rfl, rfl⟩ := trodVars_none hV
  refine ⟨ds, [], p ++ [], [], p, [], hW, ?_, ?_, ?_, hb.frame _, fun h => by cases h⟩
  · rw [List.append_nil, hfn, hres]
    exact ⟨[], [], shut_bool hbool true, rfl, rfl⟩
  · rw [List.append_nil, hfn]
    exact trodAll_stays (DataW.TrodAll.respare K full hts hA fun x hx => by simpa using hlt x (by simpa using hx)) fun x hx => hb.same (hlt x (by simpa using hx))
  · rw [List.append_nil, hfn, hvars]
    exact rfl
end

end Go.Proofs.Yteioopcacpihpaa

namespace Go.Proofs.Yteioopcacpihpaa
open Go.ChangeShapes Go.WideShapes Go.ChangeAt Go.RowKit
open Go.Lib (strCells)

section
variable {H : Type} {enc : TypeId × Value → H} {P : Program} {W : World}

/-- the bytes that cells of numbers are -/
def asBytes (zs : List Int) : List UInt8 := zs.map fun z => UInt8.ofNat z.toNat
theorem asBytes_cells {zs : List Int} (h : ∀ n ∈ zs, (Lit.int .u8 n).wf = true) : byteCells (asBytes zs) = zs.map (Value.int .u8) := by
  unfold byteCells asBytes
  rw [List.map_map]
  refine List.map_congr_left fun z hz => ?_
  have := bounds_u8 (h z hz)
  have e : (UInt8.ofNat z.toNat).toNat = z.toNat := by simp; omega
  simp only [Function.comp, e]
  congr 1
  omega

theorem row_block {a : Addr} {n : Nat} (hn : 0 < n) : ∃ p ∈ MemPlace.row a n, p.block = a.block := by
  cases n with
  | zero => omega
  | succ n => exact ⟨MemPlace.cell a.block a.off, by simp [MemPlace.row], rfl⟩

theorem open_bytes {t e : TypeId} {r : Reach} {base : Nat} {v : Value} {d : DataW H} {ps : List MemPlace} (ht : P.underlying t = some (.slice e)) (he : P.underlying e = some (.int .u8)) (hc : P.cellsOf e = 1)
    (hval : Value.okWide P W r base t v) (h : DataW.Trod enc P W 0 (fun _ => true) true t v d ps) (hlt : ∀ x ∈ ps, x.block < W.heap.size) :
    ∃ A n c l, v = .slice A n c ∧ n ≤ maxLen ∧ n ≤ c ∧ HasBytes W W.heap.size A n l := by
  obtain ⟨A, n, c, rfl⟩ := okWide_slice ht hval
  obtain ⟨fuel, hf⟩ := h
  rcases open_ints ht he hc hf with ⟨hcs, _⟩ | ⟨a, len, cap, zs, hcs, _, hle, hmax, hlen, hx, hcell, hwf⟩
  · simp [Value.cells] at hcs
    obtain ⟨rfl, rfl, rfl⟩ := hcs
    exact ⟨none, 0, 0, [], rfl, by simp [maxLen], Nat.le_refl _, Has.nil _ _ _⟩
  · simp [Value.cells] at hcs
    obtain ⟨rfl, rfl, rfl⟩ := hcs
    simp only [if_true] at hlen
    simp only [Prod.mk.injEq] at hx
    obtain ⟨rfl, rfl⟩ := hx
    have hwf' : ∀ z ∈ zs.take n, (Lit.int .u8 z).wf = true := fun z hz => hwf z (List.mem_of_mem_take hz)
    refine ⟨some a, n, c, asBytes (zs.take n), rfl, by omega, hle, ?_⟩
    unfold HasBytes
    rw [asBytes_cells hwf']
    refine ⟨by simp; omega, fun k u hu => ⟨a, rfl, ?_, ?_⟩⟩
    · have hk : k < n := by
        have := (List.getElem?_eq_some_iff.1 hu).1
        simp at this
        omega
      obtain ⟨p, hp, hpb⟩ := row_block (a := a) (n := zs.length) (by omega)
      rw [← hpb]
      exact hlt p hp
    · have hk : k < n := by
        have := (List.getElem?_eq_some_iff.1 hu).1
        simp at this
        omega
      have hz : k < zs.length := by omega
      rw [hcell k hz, ← hu]
      simp [hk, hz]

theorem open_texts {t e : TypeId} {r : Reach} {base : Nat} {v : Value} {d : DataW H} {ps : List MemPlace} (ht : P.underlying t = some (.slice e)) (he : P.underlying e = some .string) (hc : P.cellsOf e = 1)
    (hval : Value.okWide P W r base t v) (h : DataW.Trod enc P W 0 (fun _ => true) true t v d ps) (hlt : ∀ x ∈ ps, x.block < W.heap.size) :
    ∃ (A : Option Addr) (n c : Nat) (ss : List ByteArray), v = .slice A n c ∧ n ≤ maxLen ∧ n ≤ c ∧ Has W W.heap.size A n (ss.map Value.string) ∧ ∀ s ∈ ss, s.size ≤ maxLen := by
  obtain ⟨A, n, c, rfl⟩ := okWide_slice ht hval
  obtain ⟨fuel, hf⟩ := h
  rcases open_strings ht he hc hf with ⟨hcs, _⟩ | ⟨a, len, cap, ss, hcs, _, hle, hmax, hlen, hx, hcell, hwf⟩
  · simp [Value.cells] at hcs
    obtain ⟨rfl, rfl, rfl⟩ := hcs
    exact ⟨none, 0, 0, [], rfl, by simp [maxLen], Nat.le_refl _, Has.nil _ _ _, by simp⟩
  · simp [Value.cells] at hcs
    obtain ⟨rfl, rfl, rfl⟩ := hcs
    simp only [if_true] at hlen
    simp only [Prod.mk.injEq] at hx
    obtain ⟨rfl, rfl⟩ := hx
    refine ⟨some a, n, c, ss.take n, rfl, by omega, hle, ⟨by simp; omega, fun k u hu => ⟨a, rfl, ?_, ?_⟩⟩, fun s hs => hwf s (List.mem_of_mem_take hs)⟩
    · have hk : k < n := by
        have := (List.getElem?_eq_some_iff.1 hu).1
        simp at this
        omega
      obtain ⟨p, hp, hpb⟩ := row_block (a := a) (n := ss.length) (by omega)
      rw [← hpb]
      exact hlt p hp
    · have hk : k < n := by
        have := (List.getElem?_eq_some_iff.1 hu).1
        simp at this
        omega
      have hz : k < ss.length := by omega
      rw [hcell k hz, ← hu]
      simp [hk, hz]

theorem open_nums {t e : TypeId} {k : IntKind} {r : Reach} {base : Nat} {v : Value} {d : DataW H} {ps : List MemPlace} (ht : P.underlying t = some (.slice e)) (he : P.underlying e = some (.int k)) (hc : P.cellsOf e = 1)
    (hval : Value.okWide P W r base t v) (h : DataW.Trod enc P W 0 (fun _ => true) true t v d ps) (hlt : ∀ x ∈ ps, x.block < W.heap.size) :
    ∃ (A : Option Addr) (n c : Nat) (zs : List Int), v = .slice A n c ∧ n ≤ maxLen ∧ n ≤ c ∧ Has W W.heap.size A n (zs.map (Value.int k)) ∧ ∀ z ∈ zs, (Lit.int k z).wf = true := by
  obtain ⟨A, n, c, rfl⟩ := okWide_slice ht hval
  obtain ⟨fuel, hf⟩ := h
  rcases open_ints ht he hc hf with ⟨hcs, _⟩ | ⟨a, len, cap, zs, hcs, _, hle, hmax, hlen, hx, hcell, hwf⟩
  · simp [Value.cells] at hcs
    obtain ⟨rfl, rfl, rfl⟩ := hcs
    exact ⟨none, 0, 0, [], rfl, by simp [maxLen], Nat.le_refl _, Has.nil _ _ _, by simp⟩
  · simp [Value.cells] at hcs
    obtain ⟨rfl, rfl, rfl⟩ := hcs
    simp only [if_true] at hlen
    simp only [Prod.mk.injEq] at hx
    obtain ⟨rfl, rfl⟩ := hx
    refine ⟨some a, n, c, zs.take n, rfl, by omega, hle, ⟨by simp; omega, fun j u hu => ⟨a, rfl, ?_, ?_⟩⟩, fun z hz => hwf z (List.mem_of_mem_take hz)⟩
    · have hj : j < n := by
        have := (List.getElem?_eq_some_iff.1 hu).1
        simp at this
        omega
      obtain ⟨p, hp, hpb⟩ := row_block (a := a) (n := zs.length) (by omega)
      rw [← hpb]
      exact hlt p hp
    · have hj : j < n := by
        have := (List.getElem?_eq_some_iff.1 hu).1
        simp at this
        omega
      have hz : j < zs.length := by omega
      rw [hcell j hz, ← hu]
      simp [hj, hz]

theorem open_u32 {t : TypeId} {r : Reach} {base : Nat} {v : Value} {d : DataW H} {ps : List MemPlace} (ht : P.underlying t = some (.int .u32))
    (hval : Value.okWide P W r base t v) (h : DataW.Trod enc P W 0 (fun _ => true) true t v d ps) : ∃ k : Nat, v = .int .u32 (k : Int) ∧ k < 4294967296 := by
  obtain ⟨n, rfl, _, _, wf⟩ := open_int ht hval h
  simp [Lit.wf, IntKind.min, IntKind.max, IntKind.signed, IntKind.bits] at wf
  exact ⟨n.toNat, by rw [Int.toNat_of_nonneg (by omega)], by omega⟩
end

end Go.Proofs.Yteioopcacpihpaa

namespace Go.Proofs.Yteioopcacpihpaa
open Go.ChangeShapes Go.WideShapes Go.ChangeAt Go.RowKit

section
variable {H : Type} {enc : TypeId × Value → H} {P : Program} {W : World}
theorem changes_of_trod {t e : TypeId} {f0 f1 f2 : Field} {fuel : Nat} {v : Value} {x : DataW H × List MemPlace} (ht : P.underlying t = some (.slice e)) (he : P.underlying e = some (.struct #[f0, f1, f2])) (hC : P.cellsOf e = 3)
    (ho : f0.offset = 0 ∧ f1.offset = 1 ∧ f2.offset = 2) (hc : P.cellsOf f0.type = 1 ∧ P.cellsOf f1.type = 1 ∧ P.cellsOf f2.type = 1)
    (hu : P.underlying f0.type = some .string ∧ P.underlying f1.type = some .string ∧ P.underlying f2.type = some .bool)
    (hf : DataW.trod enc P W 0 (fun _ => true) true fuel t [v] = some x) (hlt : ∀ y ∈ x.2, y.block < W.heap.size) :
    ∃ (A : Option Addr) (n c : Nat) (l : List Chg), v = .slice A n c ∧ n ≤ c ∧ c ≤ maxLen ∧ HasChs W W.heap.size A n l ∧ ∀ u ∈ l, u.k.size ≤ maxLen ∧ u.v.size ≤ maxLen := by
  rcases Go.Deep.open_slice ht hf with ⟨hcs, _⟩ | ⟨a, n, c, m, n', D, Pl, hcs, _, hle, hmax, hm, hx, hi⟩
  · simp at hcs
    subst hcs
    exact ⟨none, 0, 0, [], rfl, Nat.le_refl _, by simp [maxLen], HasChs.nil _ _ _, by simp⟩
  · simp at hcs
    subst hcs
    simp only [if_true] at hm
    have hm2 := hm.symm
    subst hm2
    have hone : ∀ i, i < n → ∃ u : Chg, (W.cell? (a.add (i * 3)) = some (.string u.k) ∧ W.cell? (a.add (i * 3 + 1)) = some (.string u.v) ∧ W.cell? (a.add (i * 3 + 2)) = some (.bool u.g)) ∧ u.k.size ≤ maxLen ∧ u.v.size ≤ maxLen := by
      intro i hin
      obtain ⟨cs', hcells, htrod⟩ := hi i (by omega)
      rw [hC] at hcells
      obtain ⟨_, hlen, hat⟩ := World.cells?_some hcells
      obtain ⟨xs, n1, _, _, _, _, hg⟩ := DataW.trod_struct he htrod
      match cs', hlen with
      | [w0, w1, w2], _ =>
        have g0 := hg 0 f0 rfl
        have g1 := hg 1 f1 rfl
        have g2 := hg 2 f2 rfl
        rw [ho.1, hc.1] at g0
        rw [ho.2.1, hc.2.1] at g1
        rw [ho.2.2, hc.2.2] at g2
        have hxs : xs.length = 3 := by assumption
        match xs, hxs with
        | [y0, y1, y2], _ =>
          obtain ⟨z0, e0, _, hz0⟩ := DataW.trod_string hu.1 g0
          obtain ⟨z1, e1, _, hz1⟩ := DataW.trod_string hu.2.1 g1
          obtain ⟨z2, e2, _⟩ := DataW.trod_bool hu.2.2 g2
          simp at e0 e1 e2
          subst e0
          subst e1
          subst e2
          have c0 := hat 0 (by omega)
          have c1 := hat 1 (by omega)
          have c2 := hat 2 (by omega)
          rw [Go.Deep.add_add] at c0 c1 c2
          exact ⟨⟨z0, z1, z2⟩, ⟨c0, c1, c2⟩, hz0, hz1⟩
    obtain ⟨f, hfv⟩ := Go.Deep.choose_lt hone
    refine ⟨some a, n, c, (List.range n).map f, rfl, hle, hmax, ⟨by simp, ?_⟩, fun u hu' => ?_⟩
    · refine ⟨by rw [chgCells_len]; simp, fun k u hu' => ⟨a, rfl, ?_, ?_⟩⟩
      · obtain ⟨p, hp, hpb⟩ := row_block (a := a) (n := c * P.cellsOf e) (by
          have := (List.getElem?_eq_some_iff.1 hu').1
          rw [chgCells_len] at this
          simp at this
          rw [hC]; omega)
        rw [← hpb]
        refine hlt p ?_
        rw [hx]
        exact List.mem_append_left _ hp
      · have hk := (List.getElem?_eq_some_iff.1 hu').1
        rw [chgCells_len] at hk
        simp at hk
        have hin : k / 3 < n := by omega
        have hgi : ((List.range n).map f)[k / 3]? = some (f (k / 3)) := by simp [hin]
        obtain ⟨c0, c1, c2⟩ := chgCells_at _ _ _ hgi
        obtain ⟨⟨d0, d1, d2⟩, -⟩ := hfv (k / 3) hin
        have hcase : k = k / 3 * 3 ∨ k = k / 3 * 3 + 1 ∨ k = k / 3 * 3 + 2 := by omega
        rcases hcase with e | e | e
        · rw [e, c0] at hu'; rw [e, d0, ← hu']
        · rw [e, c1] at hu'; rw [e, d1, ← hu']
        · rw [e, c2] at hu'; rw [e, d2, ← hu']
    · obtain ⟨i, hin, rfl⟩ := List.mem_map.1 hu'
      exact (hfv i (List.mem_range.1 hin)).2
theorem open_changes {t e : TypeId} {f0 f1 f2 : Field} {r : Reach} {base : Nat} {v : Value} {d : DataW H} {ps : List MemPlace} (ht : P.underlying t = some (.slice e)) (he : P.underlying e = some (.struct #[f0, f1, f2])) (hC : P.cellsOf e = 3)
    (ho : f0.offset = 0 ∧ f1.offset = 1 ∧ f2.offset = 2) (hc : P.cellsOf f0.type = 1 ∧ P.cellsOf f1.type = 1 ∧ P.cellsOf f2.type = 1)
    (hu : P.underlying f0.type = some .string ∧ P.underlying f1.type = some .string ∧ P.underlying f2.type = some .bool)
    (hval : Value.okWide P W r base t v) (h : DataW.Trod enc P W 0 (fun _ => true) true t v d ps) (hlt : ∀ x ∈ ps, x.block < W.heap.size) :
    ∃ (A : Option Addr) (n c : Nat) (l : List Chg), v = .slice A n c ∧ n ≤ c ∧ c ≤ maxLen ∧ HasChs W W.heap.size A n l ∧ ∀ u ∈ l, u.k.size ≤ maxLen ∧ u.v.size ≤ maxLen := by
  obtain ⟨A, n, c, rfl⟩ := okWide_slice ht hval
  obtain ⟨fuel, hf⟩ := h
  exact changes_of_trod ht he hC ho hc hu (by simpa [Value.cells] using hf) hlt
theorem open_crs {t e b : TypeId} {f0 f1 f2 : Field} {r : Reach} {base : Nat} {v : Value} {d : DataW H} {ps : List MemPlace} (ht : P.underlying t = some (.slice e)) (hCe : P.cellsOf e = 1) (hte : P.underlying e = some (.slice b)) (he : P.underlying b = some (.struct #[f0, f1, f2])) (hC : P.cellsOf b = 3)
    (ho : f0.offset = 0 ∧ f1.offset = 1 ∧ f2.offset = 2) (hc : P.cellsOf f0.type = 1 ∧ P.cellsOf f1.type = 1 ∧ P.cellsOf f2.type = 1)
    (hu : P.underlying f0.type = some .string ∧ P.underlying f1.type = some .string ∧ P.underlying f2.type = some .bool)
    (hval : Value.okWide P W r base t v) (h : DataW.Trod enc P W 0 (fun _ => true) true t v d ps) (hlt : ∀ x ∈ ps, x.block < W.heap.size) :
    ∃ (A : Option Addr) (n c : Nat) (rs : Crs), v = .slice A n c ∧ n ≤ c ∧ c ≤ maxLen ∧ HasCrs W W.heap.size A n rs ∧ ∀ l ∈ crLists rs, ∀ u ∈ l, u.k.size ≤ maxLen ∧ u.v.size ≤ maxLen := by
  obtain ⟨A, n, c, rfl⟩ := okWide_slice ht hval
  obtain ⟨fuel, hf⟩ := h
  rcases Go.Deep.open_slice1 ht hCe hf with ⟨hcs, _⟩ | ⟨a, len, cap, m, n', V, D, Pl, hcs, _, hle, hmax, hm, hx, hi⟩
  · simp [Value.cells] at hcs
    obtain ⟨rfl, rfl, rfl⟩ := hcs
    exact ⟨none, 0, 0, [], rfl, Nat.le_refl _, by simp [maxLen], ⟨Has.nil _ _ _, by simp⟩, by simp [crLists]⟩
  · simp [Value.cells] at hcs
    obtain ⟨rfl, rfl, rfl⟩ := hcs
    simp only [if_true] at hm
    have hm2 := hm.symm
    subst hm2
    simp only [Prod.mk.injEq] at hx
    have hone : ∀ i, i < n → ∃ l : List Chg, (∃ A' z c', V i = .slice A' z c' ∧ z ≤ c' ∧ c' ≤ maxLen ∧ HasChs W W.heap.size A' z l) ∧ ∀ u ∈ l, u.k.size ≤ maxLen ∧ u.v.size ≤ maxLen := by
      intro i hin
      obtain ⟨_, htrod⟩ := hi i (by omega)
      obtain ⟨A', z, c', l, e1, e2, e3, e4, e5⟩ := changes_of_trod hte he hC ho hc hu htrod (fun y hy => hlt y (by
        rw [hx.2]
        exact List.mem_append_right _ (List.mem_flatMap.2 ⟨i, List.mem_range.2 (by omega), hy⟩)))
      exact ⟨l, ⟨A', z, c', e1, e2, e3, e4⟩, e5⟩
    obtain ⟨f, hfv⟩ := Go.Deep.choose_lt hone
    refine ⟨some a, n, c, (List.range n).map fun i => (V i, f i), rfl, hle, hmax, ⟨⟨by simp [crCells], fun k u hu' => ⟨a, rfl, ?_, ?_⟩⟩, ?_⟩, ?_⟩
    · obtain ⟨p, hp, hpb⟩ := row_block (a := a) (n := c) (by
        have := (List.getElem?_eq_some_iff.1 hu').1
        simp [crCells] at this
        omega)
      rw [← hpb]
      refine hlt p ?_
      rw [hx.2]
      exact List.mem_append_left _ hp
    · have hk : k < n := by
        have := (List.getElem?_eq_some_iff.1 hu').1
        simpa [crCells] using this
      rw [(hi k (by omega)).1, ← hu']
      simp [crCells, hk]
    · intro r hr
      obtain ⟨i, hin, rfl⟩ := List.mem_map.1 hr
      exact (hfv i (List.mem_range.1 hin)).1
    · intro l hl
      simp only [crLists, List.map_map, List.mem_map, List.mem_range] at hl
      obtain ⟨i, hin, rfl⟩ := hl
      exact (hfv i hin).2
theorem open_range {t : TypeId} {f0 f1 : Field} {r : Reach} {base : Nat} {v : Value} {d : DataW H} {ps : List MemPlace} (ht : P.underlying t = some (.struct #[f0, f1])) (hC : P.cellsOf t = 2) (ho : f0.offset = 0 ∧ f1.offset = 1) (hc : P.cellsOf f0.type = 1 ∧ P.cellsOf f1.type = 1)
    (hu : P.underlying f0.type = some .string ∧ P.underlying f1.type = some .string) (hval : Value.okWide P W r base t v) (h : DataW.Trod enc P W 0 (fun _ => true) true t v d ps) :
    ∃ x y : ByteArray, v = .agg #[.string x, .string y] ∧ x.size ≤ maxLen ∧ y.size ≤ maxLen := by
  obtain ⟨cs, rfl, hsz⟩ := okWide_struct ht hval
  obtain ⟨fuel, hf⟩ := h
  rw [hC] at hsz
  obtain ⟨y0, y1, n1, hx, _, g0, g1⟩ := trod_struct2 ht hf
  obtain ⟨l⟩ := cs
  match l, hsz with
  | [u0, u1], _ =>
    rw [ho.1, hc.1] at g0
    rw [ho.2, hc.2] at g1
    obtain ⟨z0, e0, _, h0⟩ := DataW.trod_string hu.1 g0
    obtain ⟨z1, e1, _, h1⟩ := DataW.trod_string hu.2 g1
    simp [Value.cells] at e0 e1
    subst e0
    subst e1
    exact ⟨z0, z1, rfl, h0, h1⟩
end

end Go.Proofs.Yteioopcacpihpaa

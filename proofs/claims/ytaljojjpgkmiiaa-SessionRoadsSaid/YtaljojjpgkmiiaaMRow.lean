/- An argument that is a row of moves (structs of three numbers and a text), opened. -/
import Derived.Test.YtaljojjpgkmiiaaRows
import Derived.ProofKit
import Derived.OpenShut
import Derived.Below
import Derived.Deep.CondSized
import Derived.Test.YtaljojjpgkmiiaaMMem
import Derived.SliceStrings
import Derived.Deep.Slices
namespace Go.Proofs.Ytaljojjpgkmiiaa
open Go.ChangeShapes Go.WideShapes Go.ChangeAt Go.RowKit

section
variable {H : Type} {enc : TypeId × Value → H} {P : Program}
theorem trodAll_stays {W W' : World} {base : Nat} {sp : Nat → Bool} {held : Bool} : ∀ {ts : List TypeId} {vs : List Value} {ds : List (DataW H)} {ps : List MemPlace},
    DataW.TrodAll enc P W base sp held ts vs ds ps → (∀ p ∈ ps, W.sameAt W' p) → DataW.TrodAll enc P W' base sp held ts vs ds ps
  | [], [], [], _, h, _ => h
  | t :: ts, v :: vs, d :: ds, ps, h, hs => by
    obtain ⟨p, q, ⟨n, h1⟩, h2, rfl⟩ := h
    exact ⟨p, q, ⟨n, DataW.trod_carry n t _ _ h1 fun x hx => hs x (List.mem_append_left _ hx)⟩, trodAll_stays h2 fun x hx => hs x (List.mem_append_right _ hx), rfl⟩

theorem law_post {fn : Func} {s : ChangeSpec} {W W' : World} {args : Array Value} {ds gs : List (DataW H)} {before : List MemPlace} {tb : TypeId}
    (K : Kids P (· < P.types.size)) (full : ∀ t e, t < P.types.size → P.underlying t = some (.slice e) → 0 < P.cellsOf e) (hts : ∀ t ∈ fn.params.toList, t < P.types.size)
    (hbool : P.underlying tb = some .bool) (hres : fn.resultTypes = #[tb]) (hvars : s.vars = [])
    (hfn : s.fn H ds = { results := [.lit (.bool true)], args := ds }) (hW : DataW.Whole enc P fn.params.toList s.vars false W args.toList ds gs before) (hb : Below W.heap.size W W') :
    s.post enc P fn false true false false W args (.bool true) W' := by
  have hlt := hW.lt
  have hW0 := hW
  rw [hvars] at hW0
  obtain ⟨p, q, hA, hV, rfl, _, _⟩ := hW0
  obtain ⟨rfl, rfl⟩ := trodVars_none hV
  refine ⟨ds, [], p ++ [], [], p, [], hW, ?_, ?_, ?_, hb.frame _, fun h => by cases h⟩
  · rw [List.append_nil, hfn, hres]
    exact ⟨[], [], shut_bool hbool true, rfl, rfl⟩
  · rw [List.append_nil, hfn]
    exact trodAll_stays (DataW.TrodAll.respare K full hts hA fun x hx => by simpa using hlt x (by simpa using hx)) fun x hx => hb.same (hlt x (by simpa using hx))
  · rw [List.append_nil, hfn, hvars]
    exact rfl
end

end Go.Proofs.Ytaljojjpgkmiiaa

namespace Go.Proofs.Ytaljojjpgkmiiaa
open Go.ChangeShapes Go.WideShapes Go.ChangeAt Go.RowKit
open Go.Lib (strCells)

section
variable {H : Type} {enc : TypeId × Value → H} {P : Program} {W : World}

/-- the bytes that cells of numbers are -/
def asBytes (zs : List Int) : List UInt8 := zs.map fun z => UInt8.ofNat z.toNat
theorem asBytes_cells {zs : List Int} (h : ∀ n ∈ zs, (Lit.int .u8 n).wf = true) : byteCells (asBytes zs) = zs.map (Value.int .u8) := by
  unfold byteCells asBytes
  rw [List.map_map]
  refine List.map_congr_left fun z hz => ?_
  have := bounds_u8 (h z hz)
  have e : (UInt8.ofNat z.toNat).toNat = z.toNat := by simp; omega
  simp only [Function.comp, e]
  congr 1
  omega

theorem row_block {a : Addr} {n : Nat} (hn : 0 < n) : ∃ p ∈ MemPlace.row a n, p.block = a.block := by
  cases n with
  | zero => omega
  | succ n => exact ⟨MemPlace.cell a.block a.off, by simp [MemPlace.row], rfl⟩

theorem open_bytes {t e : TypeId} {r : Reach} {base : Nat} {v : Value} {d : DataW H} {ps : List MemPlace} (ht : P.underlying t = some (.slice e)) (he : P.underlying e = some (.int .u8)) (hc : P.cellsOf e = 1)
    (hval : Value.okWide P W r base t v) (h : DataW.Trod enc P W 0 (fun _ => true) true t v d ps) (hlt : ∀ x ∈ ps, x.block < W.heap.size) :
    ∃ A n c l, v = .slice A n c ∧ n ≤ maxLen ∧ n ≤ c ∧ HasBytes W W.heap.size A n l := by
  obtain ⟨A, n, c, rfl⟩ := okWide_slice ht hval
  obtain ⟨fuel, hf⟩ := h
  rcases open_ints ht he hc hf with ⟨hcs, _⟩ | ⟨a, len, cap, zs, hcs, _, hle, hmax, hlen, hx, hcell, hwf⟩
  · simp [Value.cells] at hcs
    obtain ⟨rfl, rfl, rfl⟩ := hcs
    exact ⟨none, 0, 0, [], rfl, by simp [maxLen], Nat.le_refl _, Has.nil _ _ _⟩
  · simp [Value.cells] at hcs
    obtain ⟨rfl, rfl, rfl⟩ := hcs
    simp only [if_true] at hlen
    simp only [Prod.mk.injEq] at hx
    obtain ⟨rfl, rfl⟩ := hx
    have hwf' : ∀ z ∈ zs.take n, (Lit.int .u8 z).wf = true := fun z hz => hwf z (List.mem_of_mem_take hz)
    refine ⟨some a, n, c, asBytes (zs.take n), rfl, by omega, hle, ?_⟩
    unfold HasBytes
    rw [asBytes_cells hwf']
    refine ⟨by simp; omega, fun k u hu => ⟨a, rfl, ?_, ?_⟩⟩
    · have hk : k < n := by
        have := (List.getElem?_eq_some_iff.1 hu).1
        simp at this
        omega
      obtain ⟨p, hp, hpb⟩ := row_block (a := a) (n := zs.length) (by omega)
      rw [← hpb]
      exact hlt p hp
    · have hk : k < n := by
        have := (List.getElem?_eq_some_iff.1 hu).1
        simp at this
        omega
      have hz : k < zs.length := by omega
      rw [hcell k hz, ← hu]
      simp [hk, hz]

theorem open_texts {t e : TypeId} {r : Reach} {base : Nat} {v : Value} {d : DataW H} {ps : List MemPlace} (ht : P.underlying t = some (.slice e)) (he : P.underlying e = some .string) (hc : P.cellsOf e = 1)
    (hval : Value.okWide P W r base t v) (h : DataW.Trod enc P W 0 (fun _ => true) true t v d ps) (hlt : ∀ x ∈ ps, x.block < W.heap.size) :
    ∃ (A : Option Addr) (n c : Nat) (ss : List ByteArray), v = .slice A n c ∧ n ≤ maxLen ∧ n ≤ c ∧ Has W W.heap.size A n (ss.map Value.string) ∧ ∀ s ∈ ss, s.size ≤ maxLen := by
  obtain ⟨A, n, c, rfl⟩ := okWide_slice ht hval
  obtain ⟨fuel, hf⟩ := h
  rcases open_strings ht he hc hf with ⟨hcs, _⟩ | ⟨a, len, cap, ss, hcs, _, hle, hmax, hlen, hx, hcell, hwf⟩
  · simp [Value.cells] at hcs
    obtain ⟨rfl, rfl, rfl⟩ := hcs
    exact ⟨none, 0, 0, [], rfl, by simp [maxLen], Nat.le_refl _, Has.nil _ _ _, by simp⟩
  · simp [Value.cells] at hcs
    obtain ⟨rfl, rfl, rfl⟩ := hcs
    simp only [if_true] at hlen
    simp only [Prod.mk.injEq] at hx
    obtain ⟨rfl, rfl⟩ := hx
    refine ⟨some a, n, c, ss.take n, rfl, by omega, hle, ⟨by simp; omega, fun k u hu => ⟨a, rfl, ?_, ?_⟩⟩, fun s hs => hwf s (List.mem_of_mem_take hs)⟩
    · have hk : k < n := by
        have := (List.getElem?_eq_some_iff.1 hu).1
        simp at this
        omega
      obtain ⟨p, hp, hpb⟩ := row_block (a := a) (n := ss.length) (by omega)
      rw [← hpb]
      exact hlt p hp
    · have hk : k < n := by
        have := (List.getElem?_eq_some_iff.1 hu).1
        simp at this
        omega
      have hz : k < ss.length := by omega
      rw [hcell k hz, ← hu]
      simp [hk, hz]

theorem open_nums {t e : TypeId} {k : IntKind} {r : Reach} {base : Nat} {v : Value} {d : DataW H} {ps : List MemPlace} (ht : P.underlying t = some (.slice e)) (he : P.underlying e = some (.int k)) (hc : P.cellsOf e = 1)
    (hval : Value.okWide P W r base t v) (h : DataW.Trod enc P W 0 (fun _ => true) true t v d ps) (hlt : ∀ x ∈ ps, x.block < W.heap.size) :
    ∃ (A : Option Addr) (n c : Nat) (zs : List Int), v = .slice A n c ∧ n ≤ maxLen ∧ n ≤ c ∧ Has W W.heap.size A n (zs.map (Value.int k)) ∧ ∀ z ∈ zs, (Lit.int k z).wf = true := by
  obtain ⟨A, n, c, rfl⟩ := okWide_slice ht hval
  obtain ⟨fuel, hf⟩ := h
  rcases open_ints ht he hc hf with ⟨hcs, _⟩ | ⟨a, len, cap, zs, hcs, _, hle, hmax, hlen, hx, hcell, hwf⟩
  · simp [Value.cells] at hcs
    obtain ⟨rfl, rfl, rfl⟩ := hcs
    exact ⟨none, 0, 0, [], rfl, by simp [maxLen], Nat.le_refl _, Has.nil _ _ _, by simp⟩
  · simp [Value.cells] at hcs
    obtain ⟨rfl, rfl, rfl⟩ := hcs
    simp only [if_true] at hlen
    simp only [Prod.mk.injEq] at hx
    obtain ⟨rfl, rfl⟩ := hx
    refine ⟨some a, n, c, zs.take n, rfl, by omega, hle, ⟨by simp; omega, fun j u hu => ⟨a, rfl, ?_, ?_⟩⟩, fun z hz => hwf z (List.mem_of_mem_take hz)⟩
    · have hj : j < n := by
        have := (List.getElem?_eq_some_iff.1 hu).1
        simp at this
        omega
      obtain ⟨p, hp, hpb⟩ := row_block (a := a) (n := zs.length) (by omega)
      rw [← hpb]
      exact hlt p hp
    · have hj : j < n := by
        have := (List.getElem?_eq_some_iff.1 hu).1
        simp at this
        omega
      have hz : j < zs.length := by omega
      rw [hcell j hz, ← hu]
      simp [hj, hz]

theorem open_u32 {t : TypeId} {r : Reach} {base : Nat} {v : Value} {d : DataW H} {ps : List MemPlace} (ht : P.underlying t = some (.int .u32))
    (hval : Value.okWide P W r base t v) (h : DataW.Trod enc P W 0 (fun _ => true) true t v d ps) : ∃ k : Nat, v = .int .u32 (k : Int) ∧ k < 4294967296 := by
  obtain ⟨n, rfl, _, _, wf⟩ := open_int ht hval h
  simp [Lit.wf, IntKind.min, IntKind.max, IntKind.signed, IntKind.bits] at wf
  exact ⟨n.toNat, by rw [Int.toNat_of_nonneg (by omega)], by omega⟩
end

end Go.Proofs.Ytaljojjpgkmiiaa

namespace Go.Proofs.Ytaljojjpgkmiiaa
open Go.ChangeShapes Go.WideShapes Go.ChangeAt Go.RowKit

structure TMov where
  k : Int
  m : Int
  n : Int
  s : ByteArray
instance : Inhabited TMov := ⟨⟨0, 0, 0, ⟨#[]⟩⟩⟩
theorem mov_step (a : Addr) (p j : Nat) (hj : 0 < j) : a.add (p + j) = ⟨(a.add p).block, (a.add p).off + j, none⟩ := by
  rw [← addr_add]
  generalize a.add p = b
  unfold Addr.add
  rw [if_neg (by omega)]
/-- n moves, from A on, in memory below block B -/
def HasMovs (w : World) (B : Nat) (A : Option Addr) (n : Nat) (l : List TMov) : Prop :=
  l.length = n ∧ ∀ i o, l[i]? = some o → ∃ a : Addr, A = some a ∧ a.block < B ∧ w.cell? (a.add (i * 4)) = some (.int .i64 o.k) ∧ w.cell? ⟨(a.add (i * 4)).block, (a.add (i * 4)).off + 1, none⟩ = some (.int .i64 o.m) ∧
    w.cell? ⟨(a.add (i * 4)).block, (a.add (i * 4)).off + 2, none⟩ = some (.int .i64 o.n) ∧ w.cell? ⟨(a.add (i * 4)).block, (a.add (i * 4)).off + 3, none⟩ = some (.string o.s)
theorem HasMovs.belowOf {w w' : World} {B C n : Nat} {A : Option Addr} {l : List TMov} (h : HasMovs w B A n l) (hb : Below C w w') (hC : B ≤ C) : HasMovs w' B A n l :=
  ⟨h.1, fun i o ho => by
    obtain ⟨a, e, h1, h2, h3, h4, h5⟩ := h.2 i o ho
    have k : ∀ p : Addr, p.block = a.block → w'.cell? p = w.cell? p := fun p hp => hb.cell (by omega)
    exact ⟨a, e, h1, (k _ (addr_block _ _)).trans h2, (k _ (by simp [addr_block])).trans h3, (k _ (by simp [addr_block])).trans h4, (k _ (by simp [addr_block])).trans h5⟩⟩
theorem HasMovs.at_ {w : World} {B n : Nat} {A : Option Addr} {l : List TMov} (h : HasMovs w B A n l) {i : Nat} (hi : i < n) : ∃ (a : Addr) (o : TMov), A = some a ∧ a.block < B ∧ l[i]? = some o ∧ w.cell? (a.add (i * 4)) = some (.int .i64 o.k) ∧ w.cell? ⟨(a.add (i * 4)).block, (a.add (i * 4)).off + 1, none⟩ = some (.int .i64 o.m) ∧
    w.cell? ⟨(a.add (i * 4)).block, (a.add (i * 4)).off + 2, none⟩ = some (.int .i64 o.n) ∧ w.cell? ⟨(a.add (i * 4)).block, (a.add (i * 4)).off + 3, none⟩ = some (.string o.s) := by
  have hil : i < l.length := by have := h.1; omega
  obtain ⟨a, e, r⟩ := h.2 i l[i] (List.getElem?_eq_getElem hil)
  exact ⟨a, _, e, r.1, List.getElem?_eq_getElem hil, r.2⟩
section
variable {H : Type} {enc : TypeId × Value → H} {P : Program} {W : World}
theorem open_movs {t e : TypeId} {f0 f1 f2 f3 : Field} {r : Reach} {base : Nat} {v : Value} {d : DataW H} {ps : List MemPlace} (ht : P.underlying t = some (.slice e)) (he : P.underlying e = some (.struct #[f0, f1, f2, f3])) (hC : P.cellsOf e = 4)
    (ho : f0.offset = 0 ∧ f1.offset = 1 ∧ f2.offset = 2 ∧ f3.offset = 3) (hc : P.cellsOf f0.type = 1 ∧ P.cellsOf f1.type = 1 ∧ P.cellsOf f2.type = 1 ∧ P.cellsOf f3.type = 1)
    (hu : P.underlying f0.type = some (.int .i64) ∧ P.underlying f1.type = some (.int .i64) ∧ P.underlying f2.type = some (.int .i64) ∧ P.underlying f3.type = some .string)
    (hval : Value.okWide P W r base t v) (h : DataW.Trod enc P W 0 (fun _ => true) true t v d ps) (hlt : ∀ x ∈ ps, x.block < W.heap.size) :
    ∃ (A : Option Addr) (n c : Nat) (l : List TMov), v = .slice A n c ∧ n ≤ maxLen ∧ n ≤ c ∧ HasMovs W W.heap.size A n l ∧ (∀ u ∈ l, u.s.size ≤ maxLen) ∧ ∀ u ∈ l, (-9223372036854775808 ≤ u.m ∧ u.m ≤ 9223372036854775807) ∧ (-9223372036854775808 ≤ u.n ∧ u.n ≤ 9223372036854775807) := by
  obtain ⟨A, n, c, rfl⟩ := okWide_slice ht hval
  obtain ⟨fuel, hf⟩ := h
  rcases Go.Deep.open_slice ht hf with ⟨hcs, _⟩ | ⟨a, len, cap, m, n', D, Pl, hcs, _, hle, hmax, hm, hx, hi⟩
  · simp [Value.cells] at hcs
    obtain ⟨rfl, rfl, rfl⟩ := hcs
    exact ⟨none, 0, 0, [], rfl, by simp [maxLen], Nat.le_refl _, ⟨rfl, by simp⟩, by simp, by simp⟩
  · simp [Value.cells] at hcs
    obtain ⟨rfl, rfl, rfl⟩ := hcs
    simp only [if_true] at hm
    have hm2 := hm.symm
    subst hm2
    have hone : ∀ i, i < n → ∃ u : TMov, (W.cell? (a.add (i * 4)) = some (.int .i64 u.k) ∧ W.cell? ⟨(a.add (i * 4)).block, (a.add (i * 4)).off + 1, none⟩ = some (.int .i64 u.m) ∧ W.cell? ⟨(a.add (i * 4)).block, (a.add (i * 4)).off + 2, none⟩ = some (.int .i64 u.n) ∧ W.cell? ⟨(a.add (i * 4)).block, (a.add (i * 4)).off + 3, none⟩ = some (.string u.s)) ∧ u.s.size ≤ maxLen ∧ (-9223372036854775808 ≤ u.m ∧ u.m ≤ 9223372036854775807) ∧ (-9223372036854775808 ≤ u.n ∧ u.n ≤ 9223372036854775807) := by
      intro i hin
      obtain ⟨cs', hcells, htrod⟩ := hi i (by omega)
      rw [hC] at hcells
      obtain ⟨_, hlen, hat⟩ := World.cells?_some hcells
      obtain ⟨xs, n1, _, _, _, _, hg⟩ := DataW.trod_struct he htrod
      match cs', hlen with
      | [w0, w1, w2, w3], _ =>
        have g0 := hg 0 f0 rfl
        have g1 := hg 1 f1 rfl
        have g2 := hg 2 f2 rfl
        have g3 := hg 3 f3 rfl
        rw [ho.1, hc.1] at g0
        rw [ho.2.1, hc.2.1] at g1
        rw [ho.2.2.1, hc.2.2.1] at g2
        rw [ho.2.2.2, hc.2.2.2] at g3
        have hxs : xs.length = 4 := by assumption
        match xs, hxs with
        | [y0, y1, y2, y3], _ =>
          obtain ⟨z0, e0, _, _⟩ := DataW.trod_int hu.1 g0
          obtain ⟨z1, e1, _, wf2⟩ := DataW.trod_int hu.2.1 g1
          obtain ⟨z2, e2, _, wf3⟩ := DataW.trod_int hu.2.2.1 g2
          obtain ⟨z3, e3, _, hz1⟩ := DataW.trod_string hu.2.2.2 g3
          simp at e0 e1 e2 e3
          subst e0
          subst e1
          subst e2
          subst e3
          have c0 := hat 0 (by omega)
          have c1 := hat 1 (by omega)
          have c2 := hat 2 (by omega)
          have c3 := hat 3 (by omega)
          rw [Go.Deep.add_add] at c0 c1 c2 c3
          rw [mov_step a _ 1 (by omega)] at c1
          rw [mov_step a _ 2 (by omega)] at c2
          rw [mov_step a _ 3 (by omega)] at c3
          have b2 := bounds_i64 wf2
          have b3 := bounds_i64 wf3
          exact ⟨⟨z0, z1, z2, z3⟩, ⟨c0, c1, c2, c3⟩, hz1, by dsimp only; omega, by dsimp only; omega⟩
    obtain ⟨f, hfv⟩ := Go.Deep.choose_lt hone
    refine ⟨some a, n, c, (List.range n).map f, rfl, by omega, hle, ⟨by simp, fun i o hio => ?_⟩, ?_, ?_⟩
    · have hin : i < n := by have := (List.getElem?_eq_some_iff.1 hio).1; simpa using this
      have eo : f i = o := by simpa [hin] using hio
      refine ⟨a, rfl, ?_, eo ▸ (hfv i hin).1⟩
      simp only [Prod.mk.injEq] at hx
      obtain ⟨p, hp, hpb⟩ := row_block (a := a) (n := c * P.cellsOf e) (by rw [hC]; omega)
      rw [← hpb]
      refine hlt p ?_
      rw [hx.2]
      exact List.mem_append_left _ hp
    · intro u hu'
      obtain ⟨i, hin, rfl⟩ := List.mem_map.1 hu'
      exact (hfv i (List.mem_range.1 hin)).2.1
    · intro u hu'
      obtain ⟨i, hin, rfl⟩ := List.mem_map.1 hu'
      exact (hfv i (List.mem_range.1 hin)).2.2
end

end Go.Proofs.Ytaljojjpgkmiiaa

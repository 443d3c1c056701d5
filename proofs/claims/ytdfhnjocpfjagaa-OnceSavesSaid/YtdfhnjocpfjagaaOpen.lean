/- The arguments of a law, opened: bytes, texts, lists of texts. -/
import Derived.Test.YtdfhnjocpfjagaaRow
import Derived.Test.YtdfhnjocpfjagaaMem
import Derived.SliceStrings
namespace Go.Proofs.Ytdfhnjocpfjagaa
open Go.ChangeShapes Go.WideShapes Go.ChangeAt Go.RowKit
open Go.Lib (strCells)

section
variable {H : Type} {enc : TypeId × Value → H} {P : Program} {W : World}

/-- the bytes that cells of numbers are -/
def asBytes (zs : List Int) : List UInt8 := zs.map fun z => UInt8.ofNat z.toNat
theorem asBytes_cells {zs : List Int} (h : ∀ n ∈ zs, (Lit.int .u8 n).wf = true) : byteCells (asBytes zs) = zs.map (Value.int .u8) := by
  unfold byteCells asBytes
  rw [List.map_map]
  refine List.map_congr_left fun z hz => ?_
  have := bounds_u8 (h z hz)
  have e : (UInt8.ofNat z.toNat).toNat = z.toNat := by simp; omega
  simp only [Function.comp, e]
  congr 1
  omega

theorem row_block {a : Addr} {n : Nat} (hn : 0 < n) : ∃ p ∈ MemPlace.row a n, p.block = a.block := by
  cases n with
  | zero => omega
  | succ n => exact ⟨MemPlace.cell a.block a.off, by simp [MemPlace.row], rfl⟩

theorem open_bytes {t e : TypeId} {r : Reach} {base : Nat} {v : Value} {d : DataW H} {ps : List MemPlace} (ht : P.underlying t = some (.slice e)) (he : P.underlying e = some (.int .u8)) (hc : P.cellsOf e = 1)
    (hval : Value.okWide P W r base t v) (h : DataW.Trod enc P W 0 (fun _ => true) true t v d ps) (hlt : ∀ x ∈ ps, x.block < W.heap.size) :
    ∃ A n c l, v = .slice A n c ∧ n ≤ maxLen ∧ n ≤ c ∧ HasBytes W W.heap.size A n l := by
  obtain ⟨A, n, c, rfl⟩ := okWide_slice ht hval
  obtain ⟨fuel, hf⟩ := h
  rcases open_ints ht he hc hf with ⟨hcs, _⟩ | ⟨a, len, cap, zs, hcs, _, hle, hmax, hlen, hx, hcell, hwf⟩
  · simp [Value.cells] at hcs
    obtain ⟨rfl, rfl, rfl⟩ := hcs
    exact ⟨none, 0, 0, [], rfl, by simp [maxLen], Nat.le_refl _, Has.nil _ _ _⟩
  · simp [Value.cells] at hcs
    obtain ⟨rfl, rfl, rfl⟩ := hcs
    simp only [if_true] at hlen
    simp only [Prod.mk.injEq] at hx
    obtain ⟨rfl, rfl⟩ := hx
    have hwf' : ∀ z ∈ zs.take n, (Lit.int .u8 z).wf = true := fun z hz => hwf z (List.mem_of_mem_take hz)
    refine ⟨some a, n, c, asBytes (zs.take n), rfl, by omega, hle, ?_⟩
    unfold HasBytes
    rw [asBytes_cells hwf']
    refine ⟨by simp; omega, fun k u hu => ⟨a, rfl, ?_, ?_⟩⟩
    · have hk : k < n := by
        have := (List.getElem?_eq_some_iff.1 hu).1
        simp at this
        omega
      obtain ⟨p, hp, hpb⟩ := row_block (a := a) (n := zs.length) (by omega)
      rw [← hpb]
      exact hlt p hp
    · have hk : k < n := by
        have := (List.getElem?_eq_some_iff.1 hu).1
        simp at this
        omega
      have hz : k < zs.length := by omega
      rw [hcell k hz, ← hu]
      simp [hk, hz]

theorem open_texts {t e : TypeId} {r : Reach} {base : Nat} {v : Value} {d : DataW H} {ps : List MemPlace} (ht : P.underlying t = some (.slice e)) (he : P.underlying e = some .string) (hc : P.cellsOf e = 1)
    (hval : Value.okWide P W r base t v) (h : DataW.Trod enc P W 0 (fun _ => true) true t v d ps) (hlt : ∀ x ∈ ps, x.block < W.heap.size) :
    ∃ (A : Option Addr) (n c : Nat) (ss : List ByteArray), v = .slice A n c ∧ n ≤ maxLen ∧ n ≤ c ∧ Has W W.heap.size A n (ss.map Value.string) ∧ ∀ s ∈ ss, s.size ≤ maxLen := by
  obtain ⟨A, n, c, rfl⟩ := okWide_slice ht hval
  obtain ⟨fuel, hf⟩ := h
  rcases open_strings ht he hc hf with ⟨hcs, _⟩ | ⟨a, len, cap, ss, hcs, _, hle, hmax, hlen, hx, hcell, hwf⟩
  · simp [Value.cells] at hcs
    obtain ⟨rfl, rfl, rfl⟩ := hcs
    exact ⟨none, 0, 0, [], rfl, by simp [maxLen], Nat.le_refl _, Has.nil _ _ _, by simp⟩
  · simp [Value.cells] at hcs
    obtain ⟨rfl, rfl, rfl⟩ := hcs
    simp only [if_true] at hlen
    simp only [Prod.mk.injEq] at hx
    obtain ⟨rfl, rfl⟩ := hx
    refine ⟨some a, n, c, ss.take n, rfl, by omega, hle, ⟨by simp; omega, fun k u hu => ⟨a, rfl, ?_, ?_⟩⟩, fun s hs => hwf s (List.mem_of_mem_take hs)⟩
    · have hk : k < n := by
        have := (List.getElem?_eq_some_iff.1 hu).1
        simp at this
        omega
      obtain ⟨p, hp, hpb⟩ := row_block (a := a) (n := ss.length) (by omega)
      rw [← hpb]
      exact hlt p hp
    · have hk : k < n := by
        have := (List.getElem?_eq_some_iff.1 hu).1
        simp at this
        omega
      have hz : k < ss.length := by omega
      rw [hcell k hz, ← hu]
      simp [hk, hz]

theorem open_nums {t e : TypeId} {k : IntKind} {r : Reach} {base : Nat} {v : Value} {d : DataW H} {ps : List MemPlace} (ht : P.underlying t = some (.slice e)) (he : P.underlying e = some (.int k)) (hc : P.cellsOf e = 1)
    (hval : Value.okWide P W r base t v) (h : DataW.Trod enc P W 0 (fun _ => true) true t v d ps) (hlt : ∀ x ∈ ps, x.block < W.heap.size) :
    ∃ (A : Option Addr) (n c : Nat) (zs : List Int), v = .slice A n c ∧ n ≤ maxLen ∧ n ≤ c ∧ Has W W.heap.size A n (zs.map (Value.int k)) ∧ ∀ z ∈ zs, (Lit.int k z).wf = true := by
  obtain ⟨A, n, c, rfl⟩ := okWide_slice ht hval
  obtain ⟨fuel, hf⟩ := h
  rcases open_ints ht he hc hf with ⟨hcs, _⟩ | ⟨a, len, cap, zs, hcs, _, hle, hmax, hlen, hx, hcell, hwf⟩
  · simp [Value.cells] at hcs
    obtain ⟨rfl, rfl, rfl⟩ := hcs
    exact ⟨none, 0, 0, [], rfl, by simp [maxLen], Nat.le_refl _, Has.nil _ _ _, by simp⟩
  · simp [Value.cells] at hcs
    obtain ⟨rfl, rfl, rfl⟩ := hcs
    simp only [if_true] at hlen
    simp only [Prod.mk.injEq] at hx
    obtain ⟨rfl, rfl⟩ := hx
    refine ⟨some a, n, c, zs.take n, rfl, by omega, hle, ⟨by simp; omega, fun j u hu => ⟨a, rfl, ?_, ?_⟩⟩, fun z hz => hwf z (List.mem_of_mem_take hz)⟩
    · have hj : j < n := by
        have := (List.getElem?_eq_some_iff.1 hu).1
        simp at this
        omega
      obtain ⟨p, hp, hpb⟩ := row_block (a := a) (n := zs.length) (by omega)
      rw [← hpb]
      exact hlt p hp
    · have hj : j < n := by
        have := (List.getElem?_eq_some_iff.1 hu).1
        simp at this
        omega
      have hz : j < zs.length := by omega
      rw [hcell j hz, ← hu]
      simp [hj, hz]

theorem open_u32 {t : TypeId} {r : Reach} {base : Nat} {v : Value} {d : DataW H} {ps : List MemPlace} (ht : P.underlying t = some (.int .u32))
    (hval : Value.okWide P W r base t v) (h : DataW.Trod enc P W 0 (fun _ => true) true t v d ps) : ∃ k : Nat, v = .int .u32 (k : Int) ∧ k < 4294967296 := by
  obtain ⟨n, rfl, _, _, wf⟩ := open_int ht hval h
  simp [Lit.wf, IntKind.min, IntKind.max, IntKind.signed, IntKind.bits] at wf
  exact ⟨n.toNat, by rw [Int.toNat_of_nonneg (by omega)], by omega⟩
end

end Go.Proofs.Ytdfhnjocpfjagaa

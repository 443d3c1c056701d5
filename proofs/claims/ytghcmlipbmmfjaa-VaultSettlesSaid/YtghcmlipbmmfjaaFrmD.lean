/- Rows of rows of bytes; frame.Scan gives what the plain text (SpecFrame) gives. Condition: the bytes are in memory. -/
import Derived.Test.YtghcmlipbmmfjaaFrmC
namespace Go.Proofs.Ytghcmlipbmmfjaa
open Go.RowKit
open Go.Lib (strCells)

/-- slice values, each with the bytes that it has -/
abbrev Brs := List (Value × List UInt8)
def brCells (rs : Brs) : List Value := rs.map (·.1)
def brLists (rs : Brs) : List (List UInt8) := rs.map (·.2)
/-- n rows of bytes, in memory below block B -/
def HasRs (w : World) (B : Nat) (A : Option Addr) (n : Nat) (rs : Brs) : Prop :=
  Has w B A n (brCells rs) ∧ ∀ r ∈ rs, ∃ A' m c, r.1 = .slice A' m c ∧ m ≤ c ∧ c ≤ maxLen ∧ HasBytes w B A' m r.2
theorem HasRs.belowOf {w w' : World} {B C n : Nat} {A : Option Addr} {rs : Brs} (h : HasRs w B A n rs) (hb : Below C w w') (hC : B ≤ C) : HasRs w' B A n rs :=
  ⟨h.1.belowOf hb hC, fun r hr => by
    obtain ⟨A', m, c, e, h1, h2, h3⟩ := h.2 r hr
    exact ⟨A', m, c, e, h1, h2, h3.belowOf hb hC⟩⟩
theorem HasRs.len {w : World} {B n : Nat} {A : Option Addr} {rs : Brs} (h : HasRs w B A n rs) : rs.length = n := by have := h.1.1; simpa [brCells] using this
/-- row i -/
theorem HasRs.at_ {w : World} {B n : Nat} {A : Option Addr} {rs : Brs} (h : HasRs w B A n rs) {i : Nat} (hi : i < n) : ∃ (a : Addr) (A' : Option Addr) (m c : Nat) (l : List UInt8), A = some a ∧ a.block < B ∧ (brLists rs)[i]? = some l ∧ m ≤ c ∧ c ≤ maxLen ∧ HasBytes w B A' m l ∧ w.cell? (a.add i) = some (.slice A' m c) := by
  have hil : i < rs.length := by have := h.len; omega
  obtain ⟨A', m, c, e, h1, h2, h3⟩ := h.2 rs[i] (List.getElem_mem hil)
  obtain ⟨a, rfl, hb, hc⟩ := h.1.all (by omega)
  refine ⟨a, A', m, c, _, rfl, hb, ?_, h1, h2, h3, ?_⟩
  · simp [brLists, hil]
  · rw [← e]
    exact hc i _ (by simp [brCells, hil])
theorem HasRs.take {w : World} {B n : Nat} {A : Option Addr} {rs : Brs} (h : HasRs w B A n rs) {k : Nat} (hk : k ≤ n) : HasRs w B A k (rs.take k) := by
  refine ⟨?_, fun r hr => h.2 r (List.mem_of_mem_take hr)⟩
  have := Has.take h.1 hk
  unfold brCells at this ⊢
  rwa [← List.map_take] at this

/-- a row of rows of bytes that the call owns, from block B on: the rows too -/
structure OwnRs (w : World) (B : Nat) (v : Value) (rs : Brs) : Prop where
  own : w.ownsRow B 47 1 v rs.length (brCells rs)
  rows : ∀ r ∈ rs, w.ownsRow B 5 1 r.1 r.2.length (byteCells r.2)
  apart : rs.Pairwise fun r s => ∀ g h, r.1.ownBlock = some g → s.1.ownBlock = some h → g < h
theorem bs_elem : ElemN Try.prog 47 1 24 (.slice none 0 0) := ⟨by kernel_rfl, rfl⟩
theorem OwnRs.has {w : World} {B : Nat} {v : Value} {rs : Brs} (h : OwnRs w B v rs) : ∃ A c, v = .slice A rs.length c ∧ rs.length ≤ c ∧ c ≤ maxLen ∧ HasRs w w.heap.size A rs.length rs := by
  obtain ⟨A, c, e, h1, h2, h3⟩ := own_slice h.own
  refine ⟨A, c, e, h1, h2, h3, fun r hr => ?_⟩
  obtain ⟨A', c', e', g1, g2, g3⟩ := own_slice (h.rows r hr)
  have hl := g3.1
  rw [byteCells_length] at hl
  exact ⟨A', _, c', e', g1, g2, g3⟩
theorem own_keep1 {w w' : World} {B m size : Nat} {e : TypeId} {v : Value} {xs : List Value} (h : w.ownsRow B e size v m xs) (hk : ∀ g, v.ownBlock = some g → w'.heap[g]? = w.heap[g]?) : w'.ownsRow B e size v m xs := by
  refine ⟨h.1, ?_⟩
  rcases h.2 with hn | ⟨g, cap, cur, rfl, hB, hg, rest⟩
  · exact .inl hn
  · exact .inr ⟨g, cap, cur, rfl, hB, (hk g rfl).trans hg, rest⟩
theorem own_type1 {w : World} {B m size : Nat} {e : TypeId} {v : Value} {xs : List Value} (h : w.ownsRow B e size v m xs) {g : Nat} (hg : v.ownBlock = some g) : ∃ cur, w.heap[g]? = some (.cells cur e (0, 0)) := by
  rcases h.2 with ⟨rfl, _⟩ | ⟨g', cap, cur, rfl, hB, hh, rest⟩
  · cases hg
  · cases hg; exact ⟨cur, hh⟩
/-- a row's block stays where a row of another element type has grown -/
theorem own_other {w w' : World} {B B' m m' size size' : Nat} {e e' : TypeId} {v v' : Value} {xs xs' : List Value} (hg : w.grownBy w' v.ownBlock) (h : w.ownsRow B e size v m xs) (h' : w.ownsRow B' e' size' v' m' xs') (hne : e ≠ e') {g : Nat} (hgx : v'.ownBlock = some g) :
    w'.heap[g]? = w.heap[g]? := by
  obtain ⟨cur, hc⟩ := own_type1 h' hgx
  refine hg.block g (Array.getElem?_eq_some_iff.1 hc).1 fun e0 => ?_
  obtain ⟨cur', hc'⟩ := own_type1 h e0.symm
  rw [hc] at hc'
  injection hc' with hc'
  injection hc' with _ ht _
  exact hne ht.symm
theorem OwnRs.below {w w' : World} {B : Nat} {v : Value} {rs : Brs} (h : OwnRs w B v rs) (hb : Below w.heap.size w w') : OwnRs w' B v rs :=
  ⟨own_below h.own hb, fun r hr => own_below (h.rows r hr) hb, h.apart⟩
theorem OwnRs.nil (w : World) (B : Nat) : OwnRs w B (.slice none 0 0) [] := ⟨⟨rfl, .inl ⟨rfl, rfl⟩⟩, by simp, List.Pairwise.nil⟩

/-- one row more: the row of rows has grown, the rows stay -/
theorem OwnRs.snoc {w w' : World} {B : Nat} {v v' u : Value} {rs : Brs} {l : List UInt8} (h : OwnRs w B v rs) (hu : w.ownsRow B 5 1 u l.length (byteCells l))
    (hlt : ∀ r ∈ rs, ∀ g h, r.1.ownBlock = some g → u.ownBlock = some h → g < h) (h' : w'.ownsRow B 47 1 v' (rs.length + 1) (brCells rs ++ [u])) (hg : w.grownBy w' v.ownBlock) : OwnRs w' B v' (rs ++ [(u, l)]) := by
  have hkeep : ∀ (x : Value) (y : List UInt8), w.ownsRow B 5 1 x y.length (byteCells y) → w'.ownsRow B 5 1 x y.length (byteCells y) := fun x y hx => own_keep1 hx fun g hgx => by
    obtain ⟨cur, hc⟩ := own_type1 hx hgx
    refine hg.block g (Array.getElem?_eq_some_iff.1 hc).1 fun e => ?_
    obtain ⟨cur', hc'⟩ := own_type1 h.own e.symm
    rw [hc] at hc'
    injection hc' with hc'
    injection hc' with _ ht _
    exact absurd ht (by decide)
  refine ⟨by simpa [brCells] using h', fun r hr => ?_, ?_⟩
  · rcases List.mem_append.1 hr with hr | hr
    · exact hkeep _ _ (h.rows r hr)
    · simp at hr
      subst hr
      exact hkeep _ _ hu
  · rw [List.pairwise_append]
    refine ⟨h.apart, List.pairwise_singleton _ _, fun r hr s hs => ?_⟩
    simp at hs
    subst hs
    exact hlt r hr
theorem brLists_snoc (rs : Brs) (u : Value) (l : List UInt8) : brLists (rs ++ [(u, l)]) = brLists rs ++ [l] := by simp [brLists]

end Go.Proofs.Ytghcmlipbmmfjaa

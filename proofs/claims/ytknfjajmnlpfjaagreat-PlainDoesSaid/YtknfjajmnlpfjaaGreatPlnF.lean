/- The store of package plain in memory: its words, and how it stays. -/
import Derived.Test.YtknfjajmnlpfjaaGreatPlnE
import Derived.Maps.OwnSet
import Derived.Maps.RangeWalk
namespace Go.Proofs.YtknfjajmnlpfjaaGreat
open Go.RowKit
open Go.Lib (strCells compareBytes)

/-- how a value of the map reads: as itself -/
def Rv (v : Value) : Option (DataW Value × List MemPlace) := some (.held v, [])
theorem strKeyed : Maps.Keyed Tryz.prog 9 := Maps.string_keyed Tryz.underlying9

structure Ix where
  num : Int
  v : Value
  fs : List Int
def ixCells : List Ix → List Value
  | [] => []
  | x :: l => .int .i64 x.num :: x.v :: ixCells l
theorem ixCells_len : ∀ (l : List Ix), (ixCells l).length = l.length * 2
  | [] => rfl
  | x :: l => by simp [ixCells, ixCells_len l]; omega
theorem ixCells_app : ∀ (a b : List Ix), ixCells (a ++ b) = ixCells a ++ ixCells b
  | [], b => rfl
  | x :: a, b => by simp [ixCells, ixCells_app a b]
theorem ixCells_at : ∀ (l : List Ix) (i : Nat) (x : Ix), l[i]? = some x → (ixCells l)[i * 2]? = some (.int .i64 x.num) ∧ (ixCells l)[i * 2 + 1]? = some x.v
  | [], i, x, h => by simp at h
  | y :: l, 0, x, h => by
    simp at h
    subst h
    simp [ixCells]
  | y :: l, i + 1, x, h => by
    have ih := ixCells_at l i x (by simpa using h)
    rw [show (i + 1) * 2 = i * 2 + 1 + 1 from by omega]
    simpa [ixCells] using ih
theorem idx_elem : ElemN Tryz.prog 74 2 32 (.agg #[.int .i64 0, .slice none 0 0]) := ⟨by kernel_rfl, rfl⟩

/-- a record that may stand in a store -/
def GoodRec (l : List TVal) : Prop := recErr l = 0 ∧ ∀ u ∈ l, InI64 u.n
theorem GoodRec.pos {l : List TVal} (h : GoodRec l) : 1 ≤ l.length := by
  have h1 := h.1
  unfold recErr at h1
  by_cases h0 : l.length = 0
  · rw [if_pos h0] at h1; omega
  · omega
theorem GoodRec.row {l : List TVal} (h : GoodRec l) : rowErr l = 0 := by
  have h1 := h.1
  unfold recErr at h1
  by_cases h0 : l.length = 0
  · rw [if_pos h0] at h1; omega
  · rwa [if_neg h0] at h1
theorem GoodRec.le {l : List TVal} (h : GoodRec l) : l.length ≤ 4 := (rowErr_ok.1 h.row).1
theorem goodV_size {v : TVal} (h : goodV v = true) : v.s.size ≤ 32 := by
  have h1 := (goodV_iff v).1 h
  have e : v.s.size = v.t.length := Lib.size_eq _
  rcases h1 with ⟨_, _, ht⟩ | ⟨_, ht⟩ | ⟨_, _, ht⟩
  · rw [e, ht]; simp
  · rw [e, ht]; simp
  · rw [e]; exact ht
theorem GoodRec.size {l : List TVal} (h : GoodRec l) : ∀ u ∈ l, u.s.size ≤ 32 := fun u hu => goodV_size ((rowErr_ok.1 h.row).2 u hu)

/-- The pointer to block sb is a store: its map in block mb, its indexes in ix. -/
structure Store (w : World) (B sb mb : Nat) (ix : Value) (E : Kv (Value × List TVal)) (X : List Ix) (d : Nat) : Prop where
  sB : B ≤ sb
  mB : B ≤ mb
  box : Box w sb 59 #[.map (some mb), ix, .int .i64 d]
  own : w.ownsMap Tryz.prog 9 Rv mb E.length (dmap (·.1) E)
  rise : Rise E
  recs : ∀ p ∈ E, w.ownsRow B 53 3 p.2.1 p.2.2.length (valCells p.2.2)
  good : ∀ p ∈ E, GoodRec p.2.2 ∧ keyOk p.1 = true
  irow : w.ownsRow B 74 2 ix X.length (ixCells X)
  flds : ∀ x ∈ X, w.ownsRow B 3 1 x.v x.fs.length (intCells x.fs)
  ids : X.Pairwise fun x y => x.num < y.num
  nums : ∀ x ∈ X, 1 ≤ x.num ∧ x.num ≤ d ∧ idxErr 1 x.fs = 0 ∧ ∀ n ∈ x.fs, InI64 n
  most : d ≤ 6

/-- only what the store owns may have turned -/
structure Kept3 (sb mb : Nat) (ix : Value) (w w' : World) : Prop where
  os : w'.os = w.os
  tape : w'.tape = w.tape
  output : w'.output = w.output
  size : w.heap.size ≤ w'.heap.size
  block : ∀ i, i < w.heap.size → i ≠ sb → i ≠ mb → some i ≠ ix.ownBlock → w'.heap[i]? = w.heap[i]?
theorem Kept3.of {sb mb : Nat} {ix : Value} {w w' : World} (h : Below w.heap.size w w') : Kept3 sb mb ix w w' := ⟨h.os, h.tape, h.output, h.size, fun i hi _ _ _ => h.block i hi⟩
theorem Kept3.grown {sb mb g : Nat} {ix : Value} {w w' : World} (h : w.grownBy w' (some g)) (hg : g = sb ∨ g = mb ∨ ix.ownBlock = some g) : Kept3 sb mb ix w w' :=
  ⟨h.os, h.tape, h.output, h.size, fun i hi h1 h2 h3 => h.block i hi fun e => by
    injection e with e
    subst e
    rcases hg with rfl | rfl | hg
    · exact h1 rfl
    · exact h2 rfl
    · exact h3 hg.symm⟩
theorem Kept3.trans {sb mb : Nat} {ix ix' : Value} {w w1 w2 : World} (h : Kept3 sb mb ix w w1) (h2 : Kept3 sb mb ix' w1 w2) (hx : ∀ g, ix'.ownBlock = some g → ix.ownBlock = some g ∨ w.heap.size ≤ g) : Kept3 sb mb ix w w2 :=
  ⟨h2.os.trans h.os, h2.tape.trans h.tape, h2.output.trans h.output, Nat.le_trans h.size h2.size, fun i hi a b c => (h2.block i (Nat.lt_of_lt_of_le hi h.size) a b fun e => by
    rcases hx i e.symm with h' | h'
    · exact c h'.symm
    · omega).trans (h.block i hi a b c)⟩
theorem Kept3.below {w w' : World} {B sb mb : Nat} {ix : Value} {E : Kv (Value × List TVal)} {X : List Ix} {d : Nat} (h : Kept3 sb mb ix w w') (hs : Store w B sb mb ix E X d) (hB : B ≤ w.heap.size) : Below B w w' :=
  ⟨h.os, h.tape, h.output, h.size, fun i hi => h.block i (by omega) (by have := hs.sB; omega) (by have := hs.mB; omega) fun e => by
    have := (hs.irow.lt i e.symm).1
    omega⟩

theorem own_keep {w w' : World} {B m size : Nat} {e : TypeId} {v : Value} {xs : List Value} (h : w.ownsRow B e size v m xs) (hk : ∀ g, v.ownBlock = some g → w'.heap[g]? = w.heap[g]?) : w'.ownsRow B e size v m xs := by
  refine ⟨h.1, ?_⟩
  rcases h.2 with hn | ⟨g, cap, cur, rfl, hB, hg, rest⟩
  · exact .inl hn
  · exact .inr ⟨g, cap, cur, rfl, hB, (hk g rfl).trans hg, rest⟩
/-- a block that holds cells of one type holds none of another -/
theorem own_type {w : World} {B m size : Nat} {e : TypeId} {v : Value} {xs : List Value} (h : w.ownsRow B e size v m xs) {g : Nat} (hg : v.ownBlock = some g) : ∃ cur, w.heap[g]? = some (.cells cur e (0, 0)) := by
  rcases h.2 with ⟨rfl, _⟩ | ⟨g', cap, cur, rfl, hB, hh, rest⟩
  · cases hg
  · cases hg; exact ⟨cur, hh⟩
theorem map_block {w : World} {P : Program} {k : TypeId} {b n : Nat} {D : DataW Value} (h : w.ownsMap P k Rv b n D) : ∃ es c, w.heap[b]? = some (.map es c) := by
  obtain ⟨es, c, hb, _⟩ := h
  exact ⟨es, c, hb⟩
theorem map_keep {w w' : World} {P : Program} {k : TypeId} {b n : Nat} {D : DataW Value} (h : w.ownsMap P k Rv b n D) (hk : w'.heap[b]? = w.heap[b]?) : w'.ownsMap P k Rv b n D := by
  obtain ⟨es, c, hb, r⟩ := h
  exact ⟨es, c, hk.trans hb, r⟩
/-- the bound of a map's entries is their number -/
theorem map_size {w : World} {P : Program} {k : TypeId} {b n : Nat} {D : DataW Value} (h : w.ownsMap P k Rv b n D) : w.ownsMap P k Rv b (Maps.size D) D := by
  obtain ⟨es, c, hb, F, hs, rfl⟩ := h
  exact ⟨es, c, hb, F, by simp [Maps.size, length_sorted], rfl⟩

section
variable {w w' : World} {B sb mb : Nat} {ix : Value} {E : Kv (Value × List TVal)} {X : List Ix} {d : Nat}
theorem Store.lt (h : Store w B sb mb ix E X d) : sb < w.heap.size ∧ mb < w.heap.size := ⟨h.box.lt, h.own.lt⟩
/-- what keeps the store's blocks keeps the store -/
theorem Store.frame (h : Store w B sb mb ix E X d) (hk : ∀ i o, w.heap[i]? = some o → (match o with | .map _ _ => True | .cells _ t _ => t = 59 ∨ t = 74 ∨ t = 53 ∨ t = 3 | _ => False) → B ≤ i → w'.heap[i]? = w.heap[i]?) : Store w' B sb mb ix E X d := by
  obtain ⟨es, c, hm⟩ := map_block h.own
  refine { h with
    box := (hk sb _ h.box (.inl rfl) h.sB).trans h.box
    own := map_keep h.own (hk mb _ hm trivial h.mB)
    recs := fun p hp => own_keep (h.recs p hp) fun g hg => ?_
    irow := own_keep h.irow fun g hg => ?_
    flds := fun x hx => own_keep (h.flds x hx) fun g hg => ?_ }
  · obtain ⟨cur, hc⟩ := own_type (h.recs p hp) hg
    exact hk g _ hc (.inr (.inr (.inl rfl))) ((h.recs p hp).lt g hg).1
  · obtain ⟨cur, hc⟩ := own_type h.irow hg
    exact hk g _ hc (.inr (.inl rfl)) (h.irow.lt g hg).1
  · obtain ⟨cur, hc⟩ := own_type (h.flds x hx) hg
    exact hk g _ hc (.inr (.inr (.inr rfl))) ((h.flds x hx).lt g hg).1
theorem Store.below (h : Store w B sb mb ix E X d) (hb : Below w.heap.size w w') : Store w' B sb mb ix E X d :=
  h.frame fun i _ hi _ _ => hb.block i (Array.getElem?_eq_some_iff.1 hi).1
theorem Store.cells (h : Store w B sb mb ix E X d) : w.cell? ⟨sb, 0, none⟩ = some (.map (some mb)) ∧ w.cell? ⟨sb, 1, none⟩ = some ix ∧ w.cell? ⟨sb, 2, none⟩ = some (.int .i64 d) ∧
    w.frozen? ⟨sb, 0, none⟩ = false ∧ w.frozen? ⟨sb, 1, none⟩ = false ∧ w.frozen? ⟨sb, 2, none⟩ = false :=
  ⟨h.box.cell 0, h.box.cell 1, h.box.cell 2, h.box.frozen 0, h.box.frozen 1, h.box.frozen 2⟩
/-- the map's block, the store's own block, and those of rows are apart -/
theorem Store.apart (h : Store w B sb mb ix E X d) : sb ≠ mb ∧ (∀ g, ix.ownBlock = some g → g ≠ sb ∧ g ≠ mb) := by
  obtain ⟨es, c, hm⟩ := map_block h.own
  have hs := h.box
  unfold Box at hs
  refine ⟨fun e => (by rw [e, hm] at hs; cases hs), fun g hg => ?_⟩
  obtain ⟨cur, hc⟩ := own_type h.irow hg
  refine ⟨fun e => ?_, fun e => ?_⟩
  · rw [e, hs] at hc; injection hc with hc; injection hc with _ hc; exact absurd hc (by decide)
  · rw [e, hm] at hc; cases hc
end
end Go.Proofs.YtknfjajmnlpfjaaGreat

/-
  Words for memory: a slice value whose cells are known, and how they stay.
-/
import Derived.Below
import Derived.Laws.OwnMore
import Derived.Laws.BytesString
import Derived.Laws.IdiomStrings
import Derived.Maps.AppendAt
import Derived.Lib.AppendStr
import Derived.Deep.Draws
namespace Go.Proofs.Ytdfhnjocpfjagaa
open Go.RowKit
open Go.Lib (strCells)

/-- the cells of a row of bytes -/
def byteCells (l : List UInt8) : List Value := l.map fun c => .int .u8 (c.toNat : Int)
theorem byteCells_length (l : List UInt8) : (byteCells l).length = l.length := by simp [byteCells]

theorem addr_block (a : Addr) (n : Nat) : (a.add n).block = a.block := by unfold Addr.add; split <;> rfl
theorem addr_add (a : Addr) (i j : Nat) : (a.add i).add j = a.add (i + j) := by
  unfold Addr.add
  by_cases hi : i = 0 <;> by_cases hj : j = 0 <;> simp [hi, hj, Nat.add_assoc]

/-- The slice value with address A and length n has the cells xs, and lies below block B. -/
def Has (w : World) (B : Nat) (A : Option Addr) (n : Nat) (xs : List Value) : Prop :=
  xs.length = n ∧ ∀ k u, xs[k]? = some u → ∃ a, A = some a ∧ a.block < B ∧ w.cell? (a.add k) = some u

section
variable {w w' : World} {B B' n : Nat} {A : Option Addr} {xs : List Value}
theorem Has.nil (w : World) (B : Nat) (A : Option Addr) : Has w B A 0 [] := ⟨rfl, by simp⟩
theorem Has.cell {k : Nat} (h : Has w B A n xs) (hk : k < n) : ∃ a, A = some a ∧ a.block < B ∧ w.cell? (a.add k) = some (xs.getD k undef) := by
  have hl : k < xs.length := by have := h.1; omega
  obtain ⟨a, e, hb, hc⟩ := h.2 k xs[k] (List.getElem?_eq_getElem hl)
  exact ⟨a, e, hb, by rw [hc]; simp [hl]⟩
theorem Has.all (h : Has w B A n xs) (hn : 0 < n) : ∃ a, A = some a ∧ a.block < B ∧ ∀ k u, xs[k]? = some u → w.cell? (a.add k) = some u := by
  obtain ⟨a, rfl, hb, _⟩ := h.cell hn
  refine ⟨a, rfl, hb, fun k u hu => ?_⟩
  obtain ⟨a', e, _, hc⟩ := h.2 k u hu
  injection e with e
  subst e
  exact hc
theorem Has.keep (h : Has w B A n xs) (hk : ∀ p : Addr, p.block < B → w'.cell? p = w.cell? p) : Has w' B A n xs :=
  ⟨h.1, fun k u hu => by
    obtain ⟨a, e, hb, hc⟩ := h.2 k u hu
    exact ⟨a, e, hb, (hk _ (by rw [addr_block]; exact hb)).trans hc⟩⟩
theorem Has.more (h : Has w B A n xs) (hB : B ≤ B') : Has w B' A n xs :=
  ⟨h.1, fun k u hu => by
    obtain ⟨a, e, hb, hc⟩ := h.2 k u hu
    exact ⟨a, e, by omega, hc⟩⟩
theorem Has.below (h : Has w B A n xs) (hb : Below B w w') : Has w' B A n xs := h.keep fun _ hp => hb.cell hp
theorem Has.belowOf (h : Has w B A n xs) {C : Nat} (hb : Below C w w') (hC : B ≤ C) : Has w' B A n xs := h.below (hb.mono hC)
theorem Has.alloc (h : Has w B A n xs) (hB : B ≤ w.heap.size) (o : Obj) : Has (w.alloc o) B A n xs := h.keep fun p hp => World.cell?_alloc_lt w o p (by omega)
theorem Has.setCell (h : Has w B A n xs) {p : Addr} (hB : B ≤ p.block) (u : Value) : Has (w.setCell p u) B A n xs :=
  h.keep fun q hq => World.cell?_setCell_other w p q u (fun e => by subst e; omega)
theorem Has.grown (h : Has w B A n xs) {row : Option Nat} (hg : w.grownBy w' row) (hB : B ≤ w.heap.size) (hr : ∀ g, row = some g → B ≤ g) : Has w' B A n xs :=
  h.keep fun p hp => World.cell?_of_block (hg.block p.block (by omega) (fun e => by have := hr _ e.symm; omega))
theorem Has.take (h : Has w B A n xs) {k : Nat} (hk : k ≤ n) : Has w B A k (xs.take k) := by
  refine ⟨by rw [List.length_take, h.1]; omega, fun j u hu => h.2 j u ?_⟩
  rw [List.getElem?_take] at hu
  split at hu
  · exact hu
  · cases hu
theorem Has.drop (h : Has w B A n xs) {k : Nat} (hk : k < n) : Has w B (A.map (·.add k)) (n - k) (xs.drop k) := by
  obtain ⟨a, rfl, hb, hc⟩ := h.all (by omega)
  refine ⟨by rw [List.length_drop, h.1], fun j u hu => ⟨a.add k, rfl, by rw [addr_block]; exact hb, ?_⟩⟩
  rw [addr_add]
  exact hc _ u (by rw [← hu, List.getElem?_drop])
/-- x[k:] in the model's own spelling: where k is the capacity the address stays. -/
theorem Has.cut (h : Has w B A n xs) {k cap : Nat} (hk : k ≤ n) (hc : n ≤ cap) : Has w B (if cap = k then A else A.map (·.add k)) (n - k) (xs.drop k) := by
  rcases Nat.lt_or_ge k n with hlt | hge
  · rw [if_neg (by omega)]
    exact h.drop hlt
  · have hd : xs.drop k = [] := List.drop_eq_nil_of_le (by rw [h.1]; exact hge)
    rw [hd, show n - k = 0 from by omega]
    exact Has.nil _ _ _
theorem Has.of_own {base : Nat} {e : TypeId} {c : Nat} (h : w.ownsRow base e 1 (.slice A n c) n xs) : Has w w.heap.size A n xs := by
  refine ⟨by simpa using h.1, fun k u hu => ?_⟩
  rcases h.2 with ⟨hv, hn⟩ | ⟨g, cap, cur, hv, _, hh, _⟩
  · have := h.1
    subst hn
    have : xs = [] := List.eq_nil_of_length_eq_zero (by simpa using this)
    subst this
    simp at hu
  · injection hv with hA _ _
    subst hA
    exact ⟨_, rfl, (Array.getElem?_eq_some_iff.1 hh).1, h.cells (g := g) rfl k u hu⟩
end

/-- Block g is just the cells cs of element type t, none of them frozen. -/
def Box (w : World) (g : Nat) (t : TypeId) (cs : Array Value) : Prop := w.heap[g]? = some (.cells cs t (0, 0))
section
variable {w w' : World} {g : Nat} {t : TypeId} {cs : Array Value}
theorem Box.lt (h : Box w g t cs) : g < w.heap.size := (Array.getElem?_eq_some_iff.1 h).1
theorem Box.cell (h : Box w g t cs) (i : Nat) : w.cell? ⟨g, i, none⟩ = cs[i]? := cell_of_row w g i cs t (0, 0) h
theorem Box.frozen (h : Box w g t cs) (i : Nat) : w.frozen? ⟨g, i, none⟩ = false := by unfold Box at h; simp [World.frozen?, h]
theorem Box.made (w : World) (t : TypeId) (cs : Array Value) : Box (w.alloc (.cells cs t)) w.heap.size t cs := heap_alloc_new w _
theorem Box.alloc (h : Box w g t cs) (o : Obj) : Box (w.alloc o) g t cs := (Below.heap_alloc w o g h.lt).trans h
theorem Box.set_ (h : Box w g t cs) (i : Nat) (u : Value) : Box (w.setCell ⟨g, i, none⟩ u) g t (cs.setIfInBounds i u) := by
  unfold Box at h ⊢
  simp [World.setCell, Array.getElem?_modify, h]
theorem Box.far (h : Box w g t cs) {p : Addr} (hp : g ≠ p.block) (u : Value) : Box (w.setCell p u) g t cs := (Below.heap_setCell w p u g hp).trans h
theorem Box.below {B : Nat} (h : Box w g t cs) (hb : Below B w w') (hg : g < B) : Box w' g t cs := (hb.block g hg).trans h
theorem Box.grown {row : Option Nat} (h : Box w g t cs) (hb : w.grownBy w' row) (hg : some g ≠ row) : Box w' g t cs := (hb.block g h.lt hg).trans h
end

theorem byteCells_app (a b : List UInt8) : byteCells (a ++ b) = byteCells a ++ byteCells b := by simp [byteCells]
theorem byteCells_cons (c : UInt8) (l : List UInt8) : byteCells (c :: l) = .int .u8 c.toNat :: byteCells l := rfl
theorem byteCells_take (l : List UInt8) (n : Nat) : (byteCells l).take n = byteCells (l.take n) := by simp [byteCells]
theorem byteCells_drop (l : List UInt8) (n : Nat) : (byteCells l).drop n = byteCells (l.drop n) := by simp [byteCells]
theorem byteCells_inj {a b : List UInt8} (h : byteCells a = byteCells b) : a = b := by
  induction a generalizing b with
  | nil => cases b <;> simp_all [byteCells]
  | cons x a ih =>
    cases b with
    | nil => simp [byteCells] at h
    | cons y b =>
      simp only [byteCells_cons, List.cons.injEq, Value.int.injEq, true_and] at h
      have : x = y := UInt8.toNat_inj.1 (by omega)
      rw [this, ih h.2]
theorem byteCells_one (l : List UInt8) : ∀ u ∈ byteCells l, u.oneCell' = true := by
  intro u hu
  simp only [byteCells, List.mem_map] at hu
  obtain ⟨_, _, rfl⟩ := hu
  rfl

/-- The bytes l, in memory. -/
abbrev HasBytes (w : World) (B : Nat) (A : Option Addr) (n : Nat) (l : List UInt8) : Prop := Has w B A n (byteCells l)
section
variable {w w' : World} {B n : Nat} {A : Option Addr} {l : List UInt8}
theorem HasBytes.len (h : HasBytes w B A n l) : l.length = n := by have := h.1; rwa [byteCells_length] at this
theorem HasBytes.byte {k : Nat} (h : HasBytes w B A n l) (hk : k < n) : ∃ a, A = some a ∧ a.block < B ∧ w.cell? (a.add k) = some (.int .u8 ((l.getD k 0).toNat : Int)) := by
  obtain ⟨a, e, hb, hc⟩ := h.cell hk
  have hl : k < l.length := by have := h.len; omega
  exact ⟨a, e, hb, by rw [hc]; simp [byteCells, hl]⟩
theorem HasBytes.part (h : HasBytes w B A n l) {k cap : Nat} (hk : k ≤ n) (hc : n ≤ cap) : HasBytes w B (if cap = k then A else A.map (·.add k)) (n - k) (l.drop k) := by
  have := h.cut hk hc
  rwa [byteCells_drop] at this
theorem HasBytes.head (h : HasBytes w B A n l) {k : Nat} (hk : k ≤ n) : HasBytes w B A k (l.take k) := by
  have := Has.take h hk
  rwa [byteCells_take] at this
end

/-- string(b) -/
theorem run_string_of {P : Program} {w : World} {B : Nat} {A : Option Addr} {n : Nat} {l : List UInt8} (h : HasBytes w B A n l) (cap : Nat) (src dst e : TypeId)
    (hs : P.underlying src = some (.slice e)) (he : P.underlying e = some (.int .u8)) (hd : P.underlying dst = some .string) :
    (convert src dst (.slice A n cap)).run P w = .ok (.string ⟨l.toArray⟩) w := by
  have hl := h.len
  subst hl
  cases A with
  | none =>
    have e0 : l = [] := by
      cases l with
      | nil => rfl
      | cons c l => obtain ⟨a, e, _⟩ := h.cell (k := 0) (by simp); cases e
    subst e0
    rw [run_convert_bytes_string w src dst e none _ cap hs he hd]
    simp [Conv.bytesToString]
    rfl
  | some a =>
    refine run_convert_bytes_back w src dst e a cap l hs he hd fun j hj => ?_
    obtain ⟨a', e', _, hc⟩ := h.2 j (.int .u8 (l[j].toNat : Int)) (by simp [byteCells, hj])
    injection e' with e'
    subst e'
    exact hc

end Go.Proofs.Ytdfhnjocpfjagaa

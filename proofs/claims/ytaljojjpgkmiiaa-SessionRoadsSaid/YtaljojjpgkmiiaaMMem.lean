/- strings.Clone gives the text again; it lays one new row. Condition: the text is shorter than 2^47 bytes. -/
import Derived.Below
import Derived.Laws.OwnMore
import Derived.Laws.BytesString
import Derived.Laws.IdiomStrings
import Derived.Maps.AppendAt
import Derived.Lib.AppendStr
import Derived.Deep.Draws
import Derived.WalkKit
import Derived.Laws.AppendOwnNone
import Derived.Test.YtaljojjpgkmiiaaRows
import Derived.Lib.Hide
import Derived.WalkSpells
import Derived.WalkLawsBesides
import Derived.IntWalk
import Derived.BigQuiet
import Derived.Deep.QuietTactic
import Derived.Lib.ConvBytes
import Derived.Lib.Strings
import Derived.Lib.UnsafeStr
import Derived.Deep.RegionHeld3
import Derived.Deep.OwnRows
import Derived.Lib.BufferWrite
import Derived.Laws.MakeOwn
namespace Go.Proofs.Ytaljojjpgkmiiaa
open Go.RowKit
open Go.Lib (strCells)

/-- the cells of a row of bytes -/
def byteCells (l : List UInt8) : List Value := l.map fun c => .int .u8 (c.toNat : Int)
theorem byteCells_length (l : List UInt8) : (byteCells l).length = l.length := by simp [byteCells]

theorem addr_block (a : Addr) (n : Nat) : (a.add n).block = a.block := by unfold Addr.add; split <;> rfl
theorem addr_add (a : Addr) (i j : Nat) : (a.add i).add j = a.add (i + j) := by
  unfold Addr.add
  by_cases hi : i = 0 <;> by_cases hj : j = 0 <;> simp [hi, hj, Nat.add_assoc]

/-- The slice value with address A and length n has the cells xs, and lies below block B. -/
def Has (w : World) (B : Nat) (A : Option Addr) (n : Nat) (xs : List Value) : Prop :=
  xs.length = n ∧ ∀ k u, xs[k]? = some u → ∃ a, A = some a ∧ a.block < B ∧ w.cell? (a.add k) = some u

section
variable {w w' : World} {B B' n : Nat} {A : Option Addr} {xs : List Value}
theorem Has.nil (w : World) (B : Nat) (A : Option Addr) : Has w B A 0 [] := ⟨rfl, by simp⟩
theorem Has.cell {k : Nat} (h : Has w B A n xs) (hk : k < n) : ∃ a, A = some a ∧ a.block < B ∧ w.cell? (a.add k) = some (xs.getD k undef) := by
  have hl : k < xs.length := by have := h.1; omega
  obtain ⟨a, e, hb, hc⟩ := h.2 k xs[k] (List.getElem?_eq_getElem hl)
  exact ⟨a, e, hb, by rw [hc]; simp [hl]⟩
theorem Has.all (h : Has w B A n xs) (hn : 0 < n) : ∃ a, A = some a ∧ a.block < B ∧ ∀ k u, xs[k]? = some u → w.cell? (a.add k) = some u := by
  obtain ⟨a, rfl, hb, _⟩ := h.cell hn
  refine ⟨a, rfl, hb, fun k u hu => ?_⟩
  obtain ⟨a', e, _, hc⟩ := h.2 k u hu
  injection e with e
  subst e
  exact hc
theorem Has.keep (h : Has w B A n xs) (hk : ∀ p : Addr, p.block < B → w'.cell? p = w.cell? p) : Has w' B A n xs :=
  ⟨h.1, fun k u hu => by
    obtain ⟨a, e, hb, hc⟩ := h.2 k u hu
    exact ⟨a, e, hb, (hk _ (by rw [addr_block]; exact hb)).trans hc⟩⟩
theorem Has.more (h : Has w B A n xs) (hB : B ≤ B') : Has w B' A n xs :=
  ⟨h.1, fun k u hu => by
    obtain ⟨a, e, hb, hc⟩ := h.2 k u hu
    exact ⟨a, e, by omega, hc⟩⟩
theorem Has.below (h : Has w B A n xs) (hb : Below B w w') : Has w' B A n xs := h.keep fun _ hp => hb.cell hp
theorem Has.belowOf (h : Has w B A n xs) {C : Nat} (hb : Below C w w') (hC : B ≤ C) : Has w' B A n xs := h.below (hb.mono hC)
theorem Has.alloc (h : Has w B A n xs) (hB : B ≤ w.heap.size) (o : Obj) : Has (w.alloc o) B A n xs := h.keep fun p hp => World.cell?_alloc_lt w o p (by omega)
theorem Has.setCell (h : Has w B A n xs) {p : Addr} (hB : B ≤ p.block) (u : Value) : Has (w.setCell p u) B A n xs :=
  h.keep fun q hq => World.cell?_setCell_other w p q u (fun e => by subst e; omega)
theorem Has.grown (h : Has w B A n xs) {row : Option Nat} (hg : w.grownBy w' row) (hB : B ≤ w.heap.size) (hr : ∀ g, row = some g → B ≤ g) : Has w' B A n xs :=
  h.keep fun p hp => World.cell?_of_block (hg.block p.block (by omega) (fun e => by have := hr _ e.symm; omega))
theorem Has.take (h : Has w B A n xs) {k : Nat} (hk : k ≤ n) : Has w B A k (xs.take k) := by
  refine ⟨by rw [List.length_take, h.1]; omega, fun j u hu => h.2 j u ?_⟩
  rw [List.getElem?_take] at hu
  split at hu
  · exact hu
  · cases hu
theorem Has.drop (h : Has w B A n xs) {k : Nat} (hk : k < n) : Has w B (A.map (·.add k)) (n - k) (xs.drop k) := by
  obtain ⟨a, rfl, hb, hc⟩ := h.all (by omega)
  refine ⟨by rw [List.length_drop, h.1], fun j u hu => ⟨a.add k, rfl, by rw [addr_block]; exact hb, ?_⟩⟩
  rw [addr_add]
  exact hc _ u (by rw [← hu, List.getElem?_drop])
/-- x[k:] in the model's own spelling: where k is the capacity the address stays. -/
theorem Has.cut (h : Has w B A n xs) {k cap : Nat} (hk : k ≤ n) (hc : n ≤ cap) : Has w B (if cap = k then A else A.map (·.add k)) (n - k) (xs.drop k) := by
  rcases Nat.lt_or_ge k n with hlt | hge
  · rw [if_neg (by omega)]
    exact h.drop hlt
  · have hd : xs.drop k = [] := List.drop_eq_nil_of_le (by rw [h.1]; exact hge)
    rw [hd, show n - k = 0 from by omega]
    exact Has.nil _ _ _
theorem Has.of_own {base : Nat} {e : TypeId} {c : Nat} (h : w.ownsRow base e 1 (.slice A n c) n xs) : Has w w.heap.size A n xs := by
  refine ⟨by simpa using h.1, fun k u hu => ?_⟩
  rcases h.2 with ⟨hv, hn⟩ | ⟨g, cap, cur, hv, _, hh, _⟩
  · have := h.1
    subst hn
    have : xs = [] := List.eq_nil_of_length_eq_zero (by simpa using this)
    subst this
    simp at hu
  · injection hv with hA _ _
    subst hA
    exact ⟨_, rfl, (Array.getElem?_eq_some_iff.1 hh).1, h.cells (g := g) rfl k u hu⟩
end

/-- Block g is just the cells cs of element type t, none of them frozen. -/
def Box (w : World) (g : Nat) (t : TypeId) (cs : Array Value) : Prop := w.heap[g]? = some (.cells cs t (0, 0))
section
variable {w w' : World} {g : Nat} {t : TypeId} {cs : Array Value}
theorem Box.lt (h : Box w g t cs) : g < w.heap.size := (Array.getElem?_eq_some_iff.1 h).1
theorem Box.cell (h : Box w g t cs) (i : Nat) : w.cell? ⟨g, i, none⟩ = cs[i]? := cell_of_row w g i cs t (0, 0) h
theorem Box.frozen (h : Box w g t cs) (i : Nat) : w.frozen? ⟨g, i, none⟩ = false := by unfold Box at h; simp [World.frozen?, h]
theorem Box.made (w : World) (t : TypeId) (cs : Array Value) : Box (w.alloc (.cells cs t)) w.heap.size t cs := heap_alloc_new w _
theorem Box.alloc (h : Box w g t cs) (o : Obj) : Box (w.alloc o) g t cs := (Below.heap_alloc w o g h.lt).trans h
theorem Box.set_ (h : Box w g t cs) (i : Nat) (u : Value) : Box (w.setCell ⟨g, i, none⟩ u) g t (cs.setIfInBounds i u) := by
  unfold Box at h ⊢
  simp [World.setCell, Array.getElem?_modify, h]
theorem Box.far (h : Box w g t cs) {p : Addr} (hp : g ≠ p.block) (u : Value) : Box (w.setCell p u) g t cs := (Below.heap_setCell w p u g hp).trans h
theorem Box.below {B : Nat} (h : Box w g t cs) (hb : Below B w w') (hg : g < B) : Box w' g t cs := (hb.block g hg).trans h
theorem Box.grown {row : Option Nat} (h : Box w g t cs) (hb : w.grownBy w' row) (hg : some g ≠ row) : Box w' g t cs := (hb.block g h.lt hg).trans h
end

theorem byteCells_app (a b : List UInt8) : byteCells (a ++ b) = byteCells a ++ byteCells b := by simp [byteCells]
theorem byteCells_cons (c : UInt8) (l : List UInt8) : byteCells (c :: l) = .int .u8 c.toNat :: byteCells l := rfl
theorem byteCells_take (l : List UInt8) (n : Nat) : (byteCells l).take n = byteCells (l.take n) := by simp [byteCells]
theorem byteCells_drop (l : List UInt8) (n : Nat) : (byteCells l).drop n = byteCells (l.drop n) := by simp [byteCells]
theorem byteCells_inj {a b : List UInt8} (h : byteCells a = byteCells b) : a = b := by
  induction a generalizing b with
  | nil => cases b <;> simp_all [byteCells]
  | cons x a ih =>
    cases b with
    | nil => simp [byteCells] at h
    | cons y b =>
      simp only [byteCells_cons, List.cons.injEq, Value.int.injEq, true_and] at h
      have : x = y := UInt8.toNat_inj.1 (by omega)
      rw [this, ih h.2]
theorem byteCells_one (l : List UInt8) : ∀ u ∈ byteCells l, u.oneCell' = true := by
  intro u hu
  simp only [byteCells, List.mem_map] at hu
  obtain ⟨_, _, rfl⟩ := hu
  rfl

/-- The bytes l, in memory. -/
abbrev HasBytes (w : World) (B : Nat) (A : Option Addr) (n : Nat) (l : List UInt8) : Prop := Has w B A n (byteCells l)
section
variable {w w' : World} {B n : Nat} {A : Option Addr} {l : List UInt8}
theorem HasBytes.len (h : HasBytes w B A n l) : l.length = n := by have := h.1; rwa [byteCells_length] at this
theorem HasBytes.byte {k : Nat} (h : HasBytes w B A n l) (hk : k < n) : ∃ a, A = some a ∧ a.block < B ∧ w.cell? (a.add k) = some (.int .u8 ((l.getD k 0).toNat : Int)) := by
  obtain ⟨a, e, hb, hc⟩ := h.cell hk
  have hl : k < l.length := by have := h.len; omega
  exact ⟨a, e, hb, by rw [hc]; simp [byteCells, hl]⟩
theorem HasBytes.part (h : HasBytes w B A n l) {k cap : Nat} (hk : k ≤ n) (hc : n ≤ cap) : HasBytes w B (if cap = k then A else A.map (·.add k)) (n - k) (l.drop k) := by
  have := h.cut hk hc
  rwa [byteCells_drop] at this
theorem HasBytes.head (h : HasBytes w B A n l) {k : Nat} (hk : k ≤ n) : HasBytes w B A k (l.take k) := by
  have := Has.take h hk
  rwa [byteCells_take] at this
end

/-- string(b) -/
theorem run_string_of {P : Program} {w : World} {B : Nat} {A : Option Addr} {n : Nat} {l : List UInt8} (h : HasBytes w B A n l) (cap : Nat) (src dst e : TypeId)
    (hs : P.underlying src = some (.slice e)) (he : P.underlying e = some (.int .u8)) (hd : P.underlying dst = some .string) :
    (convert src dst (.slice A n cap)).run P w = .ok (.string ⟨l.toArray⟩) w := by
  have hl := h.len
  subst hl
  cases A with
  | none =>
    have e0 : l = [] := by
      cases l with
      | nil => rfl
      | cons c l => obtain ⟨a, e, _⟩ := h.cell (k := 0) (by simp); cases e
    subst e0
    rw [run_convert_bytes_string w src dst e none _ cap hs he hd]
    simp [Conv.bytesToString]
    rfl
  | some a =>
    refine run_convert_bytes_back w src dst e a cap l hs he hd fun j hj => ?_
    obtain ⟨a', e', _, hc⟩ := h.2 j (.int .u8 (l[j].toNat : Int)) (by simp [byteCells, hj])
    injection e' with e'
    subst e'
    exact hc

end Go.Proofs.Ytaljojjpgkmiiaa

namespace Go.Proofs.Ytaljojjpgkmiiaa
open Go.RowKit
open Go.Lib (strCells)

/-- elements of type e take one cell and so many bytes; z is their zero value -/
structure Elem (P : Program) (e : TypeId) (bytes : Nat) (z : Value) : Prop where
  info : (P.info? e).map (fun i => (i.zero, i.size, i.bytes)) = some (some z, 1, bytes)
  one : z.cells.size = 1

theorem Elem.get {P : Program} {e : TypeId} {bytes : Nat} {z : Value} (h : Elem P e bytes z) : ∃ i, P.info? e = some i ∧ i.zero = some z ∧ i.size = 1 ∧ i.bytes = bytes := by
  have hi := h.info
  cases hp : P.info? e with
  | none => rw [hp] at hi; simp at hi
  | some i =>
    rw [hp] at hi
    simp only [Option.map_some, Option.some.injEq, Prod.mk.injEq] at hi
    exact ⟨i, rfl, hi.1, hi.2.1, hi.2.2⟩

section
variable {P : Program} {w : World}

theorem run_append_has {t ty e : TypeId} {bytes : Nat} {z : Value} (he : Elem P e bytes z) (ht : P.underlying t = some (.slice e)) {B m : Nat} {v : Value} {xs : List Value} (hown : w.ownsRow B e 1 v m xs)
    {C n : Nat} {A : Option Addr} {ys : List Value} (c : Nat) (hr : Has w C A n ys) (h1 : ∀ u ∈ ys, u.oneCell' = true) (h63 : m + n ≤ maxLen) (hby : (m + n) * bytes ≤ 140737488355328) (hB : B ≤ w.heap.size) :
    ∃ v' w', (Builtin.append_ #[t, t] ty #[v, .slice A n c]).run P w = .ok v' w' ∧ w'.ownsRow B e 1 v' (m + n) (xs ++ ys) ∧ w.grownBy w' v.ownBlock ∧
      (v'.ownBlock = v.ownBlock ∨ v'.ownBlock = some w.heap.size) := by
  obtain ⟨i, hi, hz, hs, hb⟩ := he.get
  cases A with
  | none =>
    have hn : n = 0 := by
      rcases Nat.eq_zero_or_pos n with h0 | h0
      · exact h0
      · obtain ⟨a, e, _⟩ := hr.cell h0; cases e
    subst hn
    have hy : ys = [] := List.eq_nil_of_length_eq_zero hr.1
    subst hy
    refine ⟨v, w, ?_, by simpa using hown, World.grownBy.refl w _, .inl rfl⟩
    rcases hown.2 with ⟨rfl, rfl⟩ | ⟨g, cap, cur, rfl, _, _, hnc, _⟩
    · simp [Builtin.append_, run_underlying ht, sizeOf, typeInfo, hi, Builtin.lenOf, Builtin.firstCells]
    · simp [Builtin.append_, run_underlying ht, sizeOf, typeInfo, hi, Builtin.lenOf, Builtin.firstCells, hnc, storeCells]
  | some ad =>
    have hcells : ∀ j u, ys[j]? = some u → w.cell? (ad.add j) = some u := fun j u hu => by
      obtain ⟨a', e', _, hc⟩ := hr.2 j u hu
      injection e' with e'
      subst e'
      exact hc
    obtain ⟨v', w', hrun, h2, h3, _, h5⟩ := run_append_own_at (P := P) w B t ty e i z 1 bytes ht hi hz hs hb he.one (by omega) v m xs hown ad n c ys (by simpa using hr.1) hcells h1 h63 hby hB
    exact ⟨v', w', hrun, h2, h3, h5⟩

theorem wpList_append_has {ops : Array Oper} {rest : List Oper} {o : Oper} {a : Act} {Q : Exit → Act → World → Prop} (hgd : o.guard = none) (s x : Operand) (t : TypeId)
    (ho : o.op = .call { callee := .builtin .append, args := #[s, x], argTypes := #[t, t] }) (e : TypeId) {bytes : Nat} {z : Value} (he : Elem P e bytes z) (ht : P.underlying t = some (.slice e))
    {B m : Nat} {v : Value} {xs : List Value} (hs : a.eval s = v) (hown : w.ownsRow B e 1 v m xs) {C n c : Nat} {A : Option Addr} {ys : List Value} (hx : a.eval x = .slice A n c) (hr : Has w C A n ys)
    (h1 : ∀ u ∈ ys, u.oneCell' = true) (h63 : m + n ≤ maxLen) (hby : (m + n) * bytes ≤ 140737488355328) (hB : B ≤ w.heap.size)
    (h : ∀ v' w', w'.ownsRow B e 1 v' (m + n) (xs ++ ys) → w.grownBy w' v.ownBlock → (v'.ownBlock = v.ownBlock ∨ v'.ownBlock = some w.heap.size) → wpList P ops Q rest (a.put o.dst v') w') :
    wpList P ops Q (o :: rest) a w := by
  obtain ⟨v', w', hrun, h2, h3, h4⟩ := run_append_has (P := P) (w := w) (t := t) (ty := o.type) he ht hown c hr h1 h63 hby hB
  refine wpList_plain hgd fun K hK => ?_
  unfold Oper.wp execOp
  simp only [ho, resolve, invoke, builtin, Sem.run_bind, Sem.run_pure, Result.andThen_ok, List.map_toArray, List.map_cons, List.map_nil, hs, hx, hrun]
  exact hK _ _ (h v' w' h2 h3 h4)

/-- the same, behind a guard that lets it by -/
theorem wpList_append_guarded {ops : Array Oper} {rest : List Oper} {o : Oper} {a : Act} {Q : Exit → Act → World → Prop} (hgd : Region.wanted o (yielded ops a.tmps) = true) (s x : Operand) (t : TypeId)
    (ho : o.op = .call { callee := .builtin .append, args := #[s, x], argTypes := #[t, t] }) (e : TypeId) {bytes : Nat} {z : Value} (he : Elem P e bytes z) (ht : P.underlying t = some (.slice e))
    {B m : Nat} {v : Value} {xs : List Value} (hs : a.eval s = v) (hown : w.ownsRow B e 1 v m xs) {C n c : Nat} {A : Option Addr} {ys : List Value} (hx : a.eval x = .slice A n c) (hr : Has w C A n ys)
    (h1 : ∀ u ∈ ys, u.oneCell' = true) (h63 : m + n ≤ maxLen) (hby : (m + n) * bytes ≤ 140737488355328) (hB : B ≤ w.heap.size)
    (h : ∀ v' w', w'.ownsRow B e 1 v' (m + n) (xs ++ ys) → w.grownBy w' v.ownBlock → (v'.ownBlock = v.ownBlock ∨ v'.ownBlock = some w.heap.size) → wpList P ops Q rest (a.put o.dst v') w') :
    wpList P ops Q (o :: rest) a w := by
  obtain ⟨v', w', hrun, h2, h3, h4⟩ := run_append_has (P := P) (w := w) (t := t) (ty := o.type) he ht hown c hr h1 h63 hby hB
  refine wpList_step fun K hK => ?_
  rw [if_pos hgd]
  unfold Oper.wp execOp
  simp only [ho, resolve, invoke, builtin, Sem.run_bind, Sem.run_pure, Result.andThen_ok, List.map_toArray, List.map_cons, List.map_nil, hs, hx, hrun]
  exact hK _ _ (h v' w' h2 h3 h4)

theorem Has.one (w : World) (u : Value) (t : TypeId) (w' : World) (hw : w' = w.alloc (.cells #[u] t)) : Has w' w'.heap.size (some ⟨w.heap.size, 0, none⟩) 1 [u] := by
  subst hw
  refine ⟨rfl, fun k x hx => ⟨_, rfl, by simp, ?_⟩⟩
  cases k with
  | zero =>
    simp at hx
    subst hx
    have : (⟨w.heap.size, 0, none⟩ : Addr).add 0 = ⟨w.heap.size, 0, none⟩ := by unfold Addr.add; simp
    rw [this, (Box.made w t #[u]).cell 0]
    rfl
  | succ k => simp at hx

/-- a literal slice that the call has just laid -/
theorem Has.lit (w : World) (us : Array Value) (t : TypeId) : Has (w.alloc (.cells us t)) (w.heap.size + 1) (some ⟨w.heap.size, 0, none⟩) us.size us.toList := by
  refine ⟨by simp, fun k x hx => ⟨_, rfl, by simp, ?_⟩⟩
  have : (⟨w.heap.size, 0, none⟩ : Addr).add k = ⟨w.heap.size, k, none⟩ := by unfold Addr.add; split <;> simp_all
  rw [this, (Box.made w t us).cell k]
  simpa using hx

theorem one_int (k : IntKind) (z : Int) : ∀ u ∈ [Value.int k z], u.oneCell' = true := by
  intro u hu
  simp at hu
  subst hu
  rfl
theorem one_string (s : ByteArray) : ∀ u ∈ [Value.string s], u.oneCell' = true := by
  intro u hu
  simp at hu
  subst hu
  rfl
theorem le_alloc {B : Nat} (h : B ≤ w.heap.size) (o : Obj) : B ≤ (w.alloc o).heap.size := by simp; omega
theorem below_own {B m : Nat} {e : TypeId} {v : Value} {xs : List Value} {w0 w' : World} (hb : Below B w0 w) (hown : w.ownsRow B e 1 v m xs) (hg : w.grownBy w' v.ownBlock) (hB : B ≤ w.heap.size) : Below B w0 w' :=
  hb.grown hg hB fun k hk => (hown.lt k hk).1
end

end Go.Proofs.Ytaljojjpgkmiiaa

namespace Go.Proofs.Ytaljojjpgkmiiaa
open Go.RowKit
def intOf : Value → Int | .int _ q => q | _ => 0

theorem drop_at {b : List UInt8} {k : Nat} (h : k < b.length) : b.drop k = b[k]?.getD 0 :: b.drop (k + 1) := by
  rw [List.drop_eq_getElem_cons h]
  simp [h]

theorem take_snoc {l : List UInt8} {k : Nat} (h : k < l.length) : l.take (k + 1) = l.take k ++ [l[k]?.getD 0] := by
  rw [List.take_succ_eq_append_getElem h]
  simp [h]

theorem u8_elem : Elem Try.prog 5 1 (.int .u8 0) := ⟨by kernel_rfl, rfl⟩

/-- What is handed back is a row of the call's own, from block B on, that holds xs; below B nothing has turned. -/
def Gives (B m : Nat) (xs : List Value) (w : World) (e : Ending) (w' : World) : Prop :=
  ∃ v', e = .returned v' ∧ w'.ownsRow B 5 1 v' m xs ∧ Below B w w'

theorem ret_own {v v' : Value} {B m m' : Nat} {xs xs' : List Value} {w w' : World} (hv : v = v') (h : w'.ownsRow B 5 1 v' m' xs') (hm : m' = m) (hx : xs' = xs) (hb : Below B w w') : Gives B m xs w (.returned v) w' := by
  subst hv; subst hm; subst hx
  exact ⟨_, rfl, h, hb⟩
theorem byte_cell (k : Nat) (h : k < 256) : byteCells [UInt8.ofNat k] = [.int .u8 (k : Int)] := by
  have : (UInt8.ofNat k).toNat = k := by simp; omega
  simp only [byteCells, List.map_cons, List.map_nil, this]

theorem byteCells_set (l : List UInt8) (j : Nat) (x : UInt8) : (byteCells l).set j (.int .u8 (x.toNat : Int)) = byteCells (l.set j x) := by
  unfold byteCells
  rw [List.map_set]
theorem own_slice {w : World} {B m : Nat} {e : TypeId} {v : Value} {xs : List Value} (h : w.ownsRow B e 1 v m xs) : ∃ A c, v = .slice A m c ∧ m ≤ c ∧ c ≤ maxLen ∧ Has w w.heap.size A m xs := by
  have h0 := h
  rcases h.2 with ⟨hv, hn⟩ | ⟨g, cap, cur, hv, _, _, hc, hm, _⟩
  · subst hn
    subst hv
    exact ⟨none, 0, rfl, Nat.le_refl _, by simp [maxLen], Has.of_own h0⟩
  · subst hv
    exact ⟨_, cap, rfl, hc, hm, Has.of_own h0⟩

theorem own_base {w : World} {B B' m : Nat} {e : TypeId} {v : Value} {xs : List Value} (h : w.ownsRow B e 1 v m xs) (hB : B' ≤ B) : w.ownsRow B' e 1 v m xs := by
  refine ⟨h.1, ?_⟩
  rcases h.2 with hn | ⟨g, cap, cur, hv, hb, rest⟩
  · exact .inl hn
  · exact .inr ⟨g, cap, cur, hv, Nat.le_trans hB hb, rest⟩
theorem own_below {w w' : World} {B m : Nat} {e : TypeId} {v : Value} {xs : List Value} (h : w.ownsRow B e 1 v m xs) (hb : Below w.heap.size w w') : w'.ownsRow B e 1 v m xs := by
  refine ⟨h.1, ?_⟩
  rcases h.2 with hn | ⟨g, cap, cur, hv, hB, hg, rest⟩
  · exact .inl hn
  · exact .inr ⟨g, cap, cur, hv, hB, (hb.block g (Array.getElem?_eq_some_iff.1 hg).1).trans hg, rest⟩
theorem own_at {w : World} {B m c : Nat} {e : TypeId} {A : Option Addr} {xs : List Value} (h : w.ownsRow B e 1 (.slice A m c) m xs) (hm : 0 < m) : ∃ g, A = some ⟨g, 0, none⟩ ∧ B ≤ g := by
  rcases h.2 with ⟨_, h0⟩ | ⟨g, cap, cur, hv, hb, _⟩
  · omega
  · injection hv with hA _ _
    exact ⟨g, hA, hb⟩
theorem lit_bytes (w : World) (l : List UInt8) (t : TypeId) (cs : Array Value) (hcs : cs.toList = byteCells l) : HasBytes (w.alloc (.cells cs t)) (w.alloc (.cells cs t)).heap.size (some ⟨w.heap.size, 0, none⟩) l.length l := by
  have h := Has.lit w cs t
  have hsz : cs.size = l.length := by
    have := congrArg List.length hcs
    rw [byteCells_length] at this
    simpa using this
  rw [hcs, hsz] at h
  refine Has.more h (by simp)

/-- the row of '[]byte("..")' of a constant text: as a literal's, with the run-time's mark behind its last cell -/
theorem lit_mark (w : World) (g : Nat) (hg : w.heap.size = g) (l : List UInt8) (t : TypeId) (m : Nat × Nat) (cs : Array Value) (hcs : cs.toList = byteCells l) : HasBytes (w.alloc (.cells cs t m)) (g + 1) (some ⟨g, 0, none⟩) l.length l := by
  subst hg
  refine ⟨byteCells_length l, fun k u hu => ⟨_, rfl, by simp, ?_⟩⟩
  have e : (⟨w.heap.size, 0, none⟩ : Addr).add k = ⟨w.heap.size, k, none⟩ := by unfold Addr.add; split <;> simp_all
  rw [e, cell_of_row _ w.heap.size k cs t m (heap_alloc_new w _), ← hu, ← hcs]
  simp

end Go.Proofs.Ytaljojjpgkmiiaa

namespace Go.Proofs.Ytaljojjpgkmiiaa
open Go.RowKit

/-- elements of type e take so many cells and so many bytes; z is their zero value -/
structure ElemN (P : Program) (e : TypeId) (size bytes : Nat) (z : Value) : Prop where
  info : (P.info? e).map (fun i => (i.zero, i.size, i.bytes)) = some (some z, size, bytes)
  cells : z.cells.size = size
theorem ElemN.get {P : Program} {e : TypeId} {size bytes : Nat} {z : Value} (h : ElemN P e size bytes z) : ∃ i, P.info? e = some i ∧ i.zero = some z ∧ i.size = size ∧ i.bytes = bytes := by
  have hi := h.info
  cases hp : P.info? e with
  | none => rw [hp] at hi; simp at hi
  | some i =>
    rw [hp] at hi
    simp only [Option.map_some, Option.some.injEq, Prod.mk.injEq] at hi
    exact ⟨i, rfl, hi.1, hi.2.1, hi.2.2⟩

section
variable {P : Program} {w : World}
theorem Has.of_ownN {base n size : Nat} {e : TypeId} {c : Nat} {A : Option Addr} {xs : List Value} (h : w.ownsRow base e size (.slice A n c) n xs) : Has w w.heap.size A (n * size) xs := by
  refine ⟨h.1, fun k u hu => ?_⟩
  rcases h.2 with ⟨hv, hn⟩ | ⟨g, cap, cur, hv, _, hh, _⟩
  · have := h.1
    subst hn
    have : xs = [] := List.eq_nil_of_length_eq_zero (by omega)
    subst this
    simp at hu
  · injection hv with hA _ _
    subst hA
    exact ⟨_, rfl, (Array.getElem?_eq_some_iff.1 hh).1, h.cells (g := g) rfl k u hu⟩
theorem own_sliceN {B m size : Nat} {e : TypeId} {v : Value} {xs : List Value} (h : w.ownsRow B e size v m xs) : ∃ A c, v = .slice A m c ∧ m ≤ c ∧ c ≤ maxLen ∧ Has w w.heap.size A (m * size) xs := by
  have h0 := h
  rcases h.2 with ⟨hv, hn⟩ | ⟨g, cap, cur, hv, _, _, hc, hm, _⟩
  · subst hn
    subst hv
    exact ⟨none, 0, rfl, Nat.le_refl _, by simp [maxLen], Has.of_ownN h0⟩
  · subst hv
    exact ⟨_, cap, rfl, hc, hm, Has.of_ownN h0⟩
theorem own_belowN {w' : World} {B m size : Nat} {e : TypeId} {v : Value} {xs : List Value} (h : w.ownsRow B e size v m xs) (hb : Below w.heap.size w w') : w'.ownsRow B e size v m xs := by
  refine ⟨h.1, ?_⟩
  rcases h.2 with hn | ⟨g, cap, cur, hv, hB, hg, rest⟩
  · exact .inl hn
  · exact .inr ⟨g, cap, cur, hv, hB, (hb.block g (Array.getElem?_eq_some_iff.1 hg).1).trans hg, rest⟩
theorem own_baseN {B B' m size : Nat} {e : TypeId} {v : Value} {xs : List Value} (h : w.ownsRow B e size v m xs) (hB : B' ≤ B) : w.ownsRow B' e size v m xs := by
  refine ⟨h.1, ?_⟩
  rcases h.2 with hn | ⟨g, cap, cur, hv, hb, rest⟩
  · exact .inl hn
  · exact .inr ⟨g, cap, cur, hv, Nat.le_trans hB hb, rest⟩

/-- append onto a row of the call's own, of elements of so many cells; the source nil, empty or not -/
theorem run_append_hasN {t ty e : TypeId} {size bytes : Nat} {z : Value} (he : ElemN P e size bytes z) (hs0 : 0 < size) (ht : P.underlying t = some (.slice e)) {B m : Nat} {v : Value} {xs : List Value} (hown : w.ownsRow B e size v m xs)
    {C n : Nat} {A : Option Addr} {ys : List Value} (c : Nat) (hr : Has w C A (n * size) ys) (h1 : ∀ u ∈ ys, u.oneCell' = true) (h63 : m + n ≤ maxLen) (hby : (m + n) * bytes ≤ 140737488355328) (hB : B ≤ w.heap.size) :
    ∃ v' w', (Builtin.append_ #[t, t] ty #[v, .slice A n c]).run P w = .ok v' w' ∧ w'.ownsRow B e size v' (m + n) (xs ++ ys) ∧ w.grownBy w' v.ownBlock ∧
      (v'.ownBlock = v.ownBlock ∨ v'.ownBlock = some w.heap.size) := by
  obtain ⟨i, hi, hz, hs, hb⟩ := he.get
  cases A with
  | none =>
    have hn : n = 0 := by
      rcases Nat.eq_zero_or_pos n with h0 | h0
      · exact h0
      · obtain ⟨a, e, _⟩ := hr.cell (k := 0) (Nat.mul_pos h0 hs0); cases e
    subst hn
    have hy : ys = [] := List.eq_nil_of_length_eq_zero (by rw [hr.1]; omega)
    subst hy
    refine ⟨v, w, ?_, by simpa using hown, World.grownBy.refl w _, .inl rfl⟩
    rcases hown.2 with ⟨rfl, rfl⟩ | ⟨g, cap, cur, rfl, _, _, hnc, _⟩
    · simp [Builtin.append_, run_underlying ht, sizeOf, typeInfo, hi, Builtin.lenOf, Builtin.firstCells]
    · simp [Builtin.append_, run_underlying ht, sizeOf, typeInfo, hi, Builtin.lenOf, Builtin.firstCells, hnc, storeCells]
  | some ad =>
    have hcells : ∀ j u, ys[j]? = some u → w.cell? (ad.add j) = some u := fun j u hu => by
      obtain ⟨a', e', _, hc⟩ := hr.2 j u hu
      injection e' with e'
      subst e'
      exact hc
    obtain ⟨v', w', hrun, h2, h3, _, h5⟩ := run_append_own_at (P := P) w B t ty e i z size bytes ht hi hz hs hb he.cells hs0 v m xs hown ad n c ys hr.1 hcells h1 h63 hby hB
    exact ⟨v', w', hrun, h2, h3, h5⟩
theorem wpList_append_hasN {ops : Array Oper} {rest : List Oper} {o : Oper} {a : Act} {Q : Exit → Act → World → Prop} (hgd : o.guard = none) (s x : Operand) (t : TypeId)
    (ho : o.op = .call { callee := .builtin .append, args := #[s, x], argTypes := #[t, t] }) (e : TypeId) {size bytes : Nat} {z : Value} (he : ElemN P e size bytes z) (hs0 : 0 < size) (ht : P.underlying t = some (.slice e))
    {B m : Nat} {v : Value} {xs : List Value} (hs : a.eval s = v) (hown : w.ownsRow B e size v m xs) {C n c : Nat} {A : Option Addr} {ys : List Value} (hx : a.eval x = .slice A n c) (hr : Has w C A (n * size) ys)
    (h1 : ∀ u ∈ ys, u.oneCell' = true) (h63 : m + n ≤ maxLen) (hby : (m + n) * bytes ≤ 140737488355328) (hB : B ≤ w.heap.size)
    (h : ∀ v' w', w'.ownsRow B e size v' (m + n) (xs ++ ys) → w.grownBy w' v.ownBlock → (v'.ownBlock = v.ownBlock ∨ v'.ownBlock = some w.heap.size) → wpList P ops Q rest (a.put o.dst v') w') :
    wpList P ops Q (o :: rest) a w := by
  obtain ⟨v', w', hrun, h2, h3, h4⟩ := run_append_hasN (P := P) (w := w) (t := t) (ty := o.type) he hs0 ht hown c hr h1 h63 hby hB
  refine wpList_plain hgd fun K hK => ?_
  unfold Oper.wp execOp
  simp only [ho, resolve, invoke, builtin, Sem.run_bind, Sem.run_pure, Result.andThen_ok, List.map_toArray, List.map_cons, List.map_nil, hs, hx, hrun]
  exact hK _ _ (h v' w' h2 h3 h4)
theorem below_ownN {B m size : Nat} {e : TypeId} {v : Value} {xs : List Value} {w0 w' : World} (hb : Below B w0 w) (hown : w.ownsRow B e size v m xs) (hg : w.grownBy w' v.ownBlock) (hB : B ≤ w.heap.size) : Below B w0 w' :=
  hb.grown hg hB fun k hk => (hown.lt k hk).1
end

end Go.Proofs.Ytaljojjpgkmiiaa

namespace Go.Proofs.Ytaljojjpgkmiiaa
open Go.RowKit
open Go.Lib (strCells)

theorem ret_bool {a b : Bool} (h : a = b) : Ending.returned (.bool a) = .returned (.bool b) := by rw [h]
theorem ret_i64 {a b : Int} (h : a = b) : Ending.returned (.int .i64 a) = .returned (.int .i64 b) := by rw [h]
theorem below_box {w : World} (o : Obj) : Below w.heap.size w (w.alloc o) := (Below.refl _ _).alloc (Nat.le_refl _) o

end Go.Proofs.Ytaljojjpgkmiiaa

namespace Go.Proofs.Ytaljojjpgkmiiaa
open Go.RowKit

/-- Block g begins with the bytes l, none of them frozen. -/
def Bytes (w : World) (g : Nat) (l : List UInt8) : Prop := g < w.heap.size ∧ ∀ j, j < l.length → w.cell? ⟨g, j, none⟩ = some (.int .u8 ((l[j]?.getD 0).toNat : Int)) ∧ w.frozen? ⟨g, j, none⟩ = false
theorem Bytes.has {w : World} {g : Nat} {l : List UInt8} (h : Bytes w g l) : HasBytes w (g + 1) (some ⟨g, 0, none⟩) l.length l := by
  refine ⟨byteCells_length l, fun k u hu => ⟨_, rfl, by simp, ?_⟩⟩
  have hk : k < l.length := by
    have := (List.getElem?_eq_some_iff.1 hu).1
    rwa [byteCells_length] at this
  have e : (⟨g, 0, none⟩ : Addr).add k = ⟨g, k, none⟩ := by unfold Addr.add; split <;> simp_all
  rw [e, (h.2 k hk).1, ← hu]
  simp [byteCells, hk]
theorem Bytes.below {w w' : World} {B g : Nat} {l : List UInt8} (h : Bytes w g l) (hb : Below B w w') (hg : g < B) : Bytes w' g l :=
  ⟨Nat.lt_of_lt_of_le h.1 hb.size, fun j hj => ⟨(hb.cell (p := ⟨g, j, none⟩) hg).trans (h.2 j hj).1, (hb.frozen (p := ⟨g, j, none⟩) hg).trans (h.2 j hj).2⟩⟩
theorem Bytes.keep {w w' : World} {g : Nat} {l : List UInt8} (h : Bytes w g l) (hb : w'.heap[g]? = w.heap[g]?) (hs : w.heap.size ≤ w'.heap.size) : Bytes w' g l :=
  ⟨Nat.lt_of_lt_of_le h.1 hs, fun j hj => ⟨(World.cell?_of_block (w := w) (a := ⟨g, j, none⟩) hb).trans (h.2 j hj).1, (World.frozen?_of_block (w := w) (a := ⟨g, j, none⟩) hb).trans (h.2 j hj).2⟩⟩

theorem conv_bytes (P : Program) (w : World) (src dst e : TypeId) (s : ByteArray) (hs : P.underlying src = some .string) (hd : P.underlying dst = some (.slice e)) (he : P.underlying e = some (.int .u8)) :
    ∃ w1 c, (convert src dst (.string s)).run P w = .ok (.slice (some ⟨w.heap.size, 0, none⟩) s.size c) w1 ∧ s.size ≤ c ∧ w1.heap.size = w.heap.size + 1 ∧ Below w.heap.size w w1 ∧ Bytes w1 w.heap.size s.data.toList := by
  refine ⟨_, _, Lib.run_convert_string_bytes w src dst e s hs hd he, grownCap_ge _ _ _ _, Lib.bytesWorld_size _ _ _, ?_, ?_, ?_⟩
  · unfold Lib.bytesWorld
    exact Lib.below_freeze (((Below.refl _ w).drew).alloc (Nat.le_refl _) _) (Nat.le_refl _) _
  · rw [Lib.bytesWorld_size]
    omega
  · intro j hj
    have hj' : j < s.size := by
      rw [Lib.size_eq]
      exact hj
    refine ⟨?_, ?_⟩
    · rw [Lib.bytesWorld_cell w e s j hj']
      rfl
    · unfold World.frozen?
      rw [show (Lib.bytesWorld w e s).heap[(⟨w.heap.size, j, none⟩ : Addr).block]? = _ from Lib.bytesWorld_at_new w e s]
      have : j < (Lib.bytesCells w e s).size := by
        unfold Lib.bytesCells
        simp
        omega
      simp
      omega

theorem string_run {w : World} {B n : Nat} {A : Option Addr} {l : List UInt8} (h : HasBytes w B A n l) (c : Nat) : (convert 76 9 (.slice A n c)).run Try.prog w = .ok (.string ⟨l.toArray⟩) w :=
  run_string_of h c _ _ _ Try.underlying76 Try.underlying5 Try.underlying9

end Go.Proofs.Ytaljojjpgkmiiaa

namespace Go.Proofs.Ytaljojjpgkmiiaa
open Go.RowKit

/-- v0's row, and what is new, alone have turned; the row is v now: in the block that it had, or in a new one. -/
def Grew (w : World) (v0 : Value) (w' : World) (v : Value) : Prop := w.grownBy w' v0.ownBlock ∧ (v.ownBlock = v0.ownBlock ∨ ∃ g, w.heap.size ≤ g ∧ v.ownBlock = some g)
section
variable {w w1 w2 : World} {v0 v1 v2 : Value}
theorem Grew.refl (w : World) (v : Value) : Grew w v w v := ⟨World.grownBy.refl _ _, .inl rfl⟩
theorem Grew.alloc (h : Grew w v0 w1 v1) (o : Obj) : Grew w v0 (w1.alloc o) v1 := ⟨h.1.trans (World.grownBy_alloc _ _ _), h.2⟩
theorem Grew.drew (h : Grew w v0 w1 v1) : Grew w v0 w1.drew v1 := ⟨⟨h.1.os, h.1.tape, h.1.output, h.1.size, h.1.block⟩, h.2⟩
theorem Grew.trans (h : Grew w v0 w1 v1) (k : Grew w1 v1 w2 v2) : Grew w v0 w2 v2 := by
  refine ⟨⟨k.1.os.trans h.1.os, k.1.tape.trans h.1.tape, k.1.output.trans h.1.output, Nat.le_trans h.1.size k.1.size, fun i hi hne => ?_⟩, ?_⟩
  · refine (k.1.block i (Nat.lt_of_lt_of_le hi h.1.size) fun e => ?_).trans (h.1.block i hi hne)
    rcases h.2 with h2 | ⟨g, hg, h2⟩
    · exact hne (by rw [e, h2])
    · rw [h2] at e
      injection e
      omega
  · rcases k.2 with k2 | ⟨g, hg, k2⟩
    · rcases h.2 with h2 | ⟨g, hg, h2⟩
      · exact .inl (k2.trans h2)
      · exact .inr ⟨g, hg, k2.trans h2⟩
    · exact .inr ⟨g, Nat.le_trans h.1.size hg, k2⟩
theorem Grew.app (h : Grew w v0 w1 v1) (hg : w1.grownBy w2 v1.ownBlock) (hz : v2.ownBlock = v1.ownBlock ∨ v2.ownBlock = some w1.heap.size) : Grew w v0 w2 v2 :=
  h.trans ⟨hg, hz.imp id fun e => ⟨_, Nat.le_refl _, e⟩⟩
theorem Grew.under (h : Grew w v0 w1 v1) (hb : Below w1.heap.size w1 w2) : Grew w v0 w2 v1 := h.trans ⟨⟨hb.os, hb.tape, hb.output, hb.size, fun i hi _ => hb.block i hi⟩, .inl rfl⟩
theorem Grew.below {B m size : Nat} {e : TypeId} {xs : List Value} (h : Grew w v0 w1 v1) (hown : w.ownsRow B e size v0 m xs) (hB : B ≤ w.heap.size) : Below B w w1 :=
  (Below.refl B w).grown h.1 hB fun k hk => (hown.lt k hk).1
theorem Grew.size (h : Grew w v0 w1 v1) : w.heap.size ≤ w1.heap.size := h.1.size
theorem Grew.cell {p : Addr} {u : Value} (h : Grew w v0 w1 v1) (hne : v0.ownBlock ≠ some p.block) (hc : w.cell? p = some u) : w1.cell? p = some u := h.1.cell hc fun e => hne e.symm
theorem Grew.far {g : Nat} (h : Grew w v0 w1 v1) (hg : g < w.heap.size) (hne : v0.ownBlock ≠ some g) : v1.ownBlock ≠ some g := by
  rcases h.2 with h2 | ⟨k, hk, h2⟩
  · rw [h2]; exact hne
  · rw [h2]
    intro e
    injection e
    omega
theorem Grew.bytes {g : Nat} {l : List UInt8} (h : Grew w v0 w1 v1) (hb : Bytes w g l) (hne : v0.ownBlock ≠ some g) : Bytes w1 g l := hb.keep (h.1.block g hb.1 fun e => hne e.symm) h.1.size
end

/-- What is handed back is the row that came in, with more in it: it holds xs; that row's block, and what is new, alone have turned. -/
def GivesG (v : Value) (B m : Nat) (xs : List Value) (w : World) (e : Ending) (w' : World) : Prop :=
  ∃ v', e = .returned v' ∧ w'.ownsRow B 5 1 v' m xs ∧ Grew w v w' v'
theorem ret_grew {v0 v v' : Value} {B m m' : Nat} {xs xs' : List Value} {w w' : World} (hv : v = v') (h : w'.ownsRow B 5 1 v' m' xs') (hm : m' = m) (hx : xs' = xs) (hb : Grew w v0 w' v') : GivesG v0 B m xs w (.returned v) w' := by
  subst hv; subst hm; subst hx
  exact ⟨_, rfl, h, hb⟩

end Go.Proofs.Ytaljojjpgkmiiaa

namespace Go.Proofs.Ytaljojjpgkmiiaa
open Go.RowKit

section
variable {P : Program} {w : World}
theorem step_append_hasN {ops : Array Oper} {o : Oper} {a : Act} {K : Act → World → Prop} {Q : Exit → Act → World → Prop} {E : Prop} (hgd : o.guard = none) (s x : Operand) (t : TypeId)
    (ho : o.op = .call { callee := .builtin .append, args := #[s, x], argTypes := #[t, t] }) (e : TypeId) {size bytes : Nat} {z : Value} (he : ElemN P e size bytes z) (hs0 : 0 < size) (ht : P.underlying t = some (.slice e))
    {B m : Nat} {v : Value} {xs : List Value} (hs : a.eval s = v) (hown : w.ownsRow B e size v m xs) {C n c : Nat} {A : Option Addr} {ys : List Value} (hx : a.eval x = .slice A n c) (hr : Has w C A (n * size) ys)
    (h1 : ∀ u ∈ ys, u.oneCell' = true) (h63 : m + n ≤ maxLen) (hby : (m + n) * bytes ≤ 140737488355328) (hB : B ≤ w.heap.size)
    (h : ∀ v' w', w'.ownsRow B e size v' (m + n) (xs ++ ys) → w.grownBy w' v.ownBlock → (v'.ownBlock = v.ownBlock ∨ v'.ownBlock = some w.heap.size) → K (a.put o.dst v') w') :
    if Region.wanted o (yielded ops a.tmps) = true then Oper.wp P o a w K Q else E := by
  have hw : Region.wanted o (yielded ops a.tmps) = true := by simp [Region.wanted, hgd]
  rw [if_pos hw]
  obtain ⟨v', w', hrun, h2, h3, h4⟩ := run_append_hasN (P := P) (w := w) (t := t) (ty := o.type) he hs0 ht hown c hr h1 h63 hby hB
  unfold Oper.wp execOp
  simp only [ho, resolve, invoke, builtin, Sem.run_bind, Sem.run_pure, Result.andThen_ok, List.map_toArray, List.map_cons, List.map_nil, hs, hx, hrun]
  exact h v' w' h2 h3 h4
end
theorem u8_elemN : ElemN Try.prog 5 1 1 (.int .u8 0) := ⟨by kernel_rfl, rfl⟩

theorem one_at (w : World) (g : Nat) (hg : w.heap.size = g) (u : Value) (t : TypeId) : Has (w.alloc (.cells #[u] t)).drew (g + 1) (some ⟨g, 0, none⟩) (1 * 1) [u] := by
  subst hg
  have h := Has.one w u t _ rfl
  exact Has.more h (by simp)

end Go.Proofs.Ytaljojjpgkmiiaa

namespace Go.Proofs.Ytaljojjpgkmiiaa
open Go.RowKit

/-- a box of three cells that the call has laid, in a later world -/
theorem box_below {w w0 : World} {x y z : Value} {t : TypeId} (h : Below (w.alloc (.cells #[x, y, z] t)).heap.size (w.alloc (.cells #[x, y, z] t)) w0) :
    w0.cell? ⟨w.heap.size, 0, none⟩ = some x ∧ w0.cell? ⟨w.heap.size, 1, none⟩ = some y ∧ w0.cell? ⟨w.heap.size, 2, none⟩ = some z ∧
    w0.frozen? ⟨w.heap.size, 0, none⟩ = false ∧ w0.frozen? ⟨w.heap.size, 1, none⟩ = false ∧ w0.frozen? ⟨w.heap.size, 2, none⟩ = false := by
  have hb := (Box.made w t #[x, y, z]).below h (by simp)
  exact ⟨hb.cell 0, hb.cell 1, hb.cell 2, hb.frozen 0, hb.frozen 1, hb.frozen 2⟩
theorem box_store {w : World} {g : Nat} {x y z x' y' z' : Value} (q0 : w.cell? ⟨g, 0, none⟩ = some x) (q1 : w.cell? ⟨g, 1, none⟩ = some y) (q2 : w.cell? ⟨g, 2, none⟩ = some z) :
    (((w.setCell ⟨g, 0, none⟩ x').setCell ⟨g, 1, none⟩ y').setCell ⟨g, 2, none⟩ z').cell? ⟨g, 0, none⟩ = some x' ∧ (((w.setCell ⟨g, 0, none⟩ x').setCell ⟨g, 1, none⟩ y').setCell ⟨g, 2, none⟩ z').cell? ⟨g, 1, none⟩ = some y' ∧
    (((w.setCell ⟨g, 0, none⟩ x').setCell ⟨g, 1, none⟩ y').setCell ⟨g, 2, none⟩ z').cell? ⟨g, 2, none⟩ = some z' := by
  have n01 : (⟨g, 0, none⟩ : Addr) ≠ ⟨g, 1, none⟩ := fun e => by injection e with _ e; omega
  have n02 : (⟨g, 0, none⟩ : Addr) ≠ ⟨g, 2, none⟩ := fun e => by injection e with _ e; omega
  have n12 : (⟨g, 1, none⟩ : Addr) ≠ ⟨g, 2, none⟩ := fun e => by injection e with _ e; omega
  have s1 : (w.setCell ⟨g, 0, none⟩ x').cell? ⟨g, 1, none⟩ = some y := (World.cell?_setCell_other w _ _ _ n01).trans q1
  have s2 : ((w.setCell ⟨g, 0, none⟩ x').setCell ⟨g, 1, none⟩ y').cell? ⟨g, 2, none⟩ = some z := (World.cell?_setCell_other _ _ _ _ n12).trans ((World.cell?_setCell_other w _ _ _ n02).trans q2)
  refine ⟨?_, ?_, World.cell?_setCell_same _ _ _ s2⟩
  · rw [World.cell?_setCell_other _ _ _ _ (fun e => n02 e.symm), World.cell?_setCell_other _ _ _ _ (fun e => n01 e.symm)]
    exact World.cell?_setCell_same _ _ _ q0
  · rw [World.cell?_setCell_other _ _ _ _ (fun e => n12 e.symm)]
    exact World.cell?_setCell_same _ _ _ s1
theorem box_at {w w0 : World} {g : Nat} {x y z : Value} {t : TypeId} (h : Below (g + 1) (w.alloc (.cells #[x, y, z] t)) w0) (hg : w.heap.size = g) :
    w0.cell? ⟨g, 0, none⟩ = some x ∧ w0.cell? ⟨g, 1, none⟩ = some y ∧ w0.cell? ⟨g, 2, none⟩ = some z ∧
    w0.frozen? ⟨g, 0, none⟩ = false ∧ w0.frozen? ⟨g, 1, none⟩ = false ∧ w0.frozen? ⟨g, 2, none⟩ = false := by
  subst hg
  have hb := (Box.made w t #[x, y, z]).below h (by simp)
  exact ⟨hb.cell 0, hb.cell 1, hb.cell 2, hb.frozen 0, hb.frozen 1, hb.frozen 2⟩
theorem box_far {w w0 W3 : World} {g : Nat} {o : Obj} {x y z : Value} (h : Below (g + 1) (w.alloc o) w0) (hg : w.heap.size = g) (e : ((w0.setCell ⟨g, 0, none⟩ x).setCell ⟨g, 1, none⟩ y).setCell ⟨g, 2, none⟩ z = W3) : Below g w W3 := by
  subst hg
  rw [← e]
  exact ((((below_box o).trans (h.mono (by simp))).setCell (Nat.le_refl _) _).setCell (Nat.le_refl _) _).setCell (Nat.le_refl _) _
theorem own_head {w : World} {B m c size : Nat} {e : TypeId} {A : Option Addr} {xs : List Value} (h : w.ownsRow B e size (.slice A m c) m xs) (hm : 0 < m) : ∃ g, A = some ⟨g, 0, none⟩ ∧ B ≤ g := by
  rcases h.2 with ⟨_, h0⟩ | ⟨g, cap, cur, hv, hb, _⟩
  · omega
  · injection hv with hA _ _
    exact ⟨g, hA, hb⟩

end Go.Proofs.Ytaljojjpgkmiiaa

namespace Go.Proofs.Ytaljojjpgkmiiaa
open Go.RowKit

theorem row_add (g j : Nat) : (⟨g, 0, none⟩ : Addr).add j = ⟨g, j, none⟩ := by unfold Addr.add; split <;> simp_all
set_option maxHeartbeats 800000 in
theorem cloneLite_any (s : ByteArray) (w : World) (hs : s.size ≤ 140737488355328) :
    Calls Try.prog 101 #[.string s] w fun e w' => e = .returned (.string s) ∧ Below w.heap.size w w' := by
  have hsl := Lib.size_eq s
  by_cases h0 : s.size = 0
  · have e : s = ⟨#[]⟩ := by
      obtain ⟨⟨l⟩⟩ := s
      rw [h0] at hsl
      have : l = [] := List.eq_nil_of_length_eq_zero hsl.symm
      rw [this]
    clear h0 hsl
    subst e
    go_enter Try.func101, Try.ntmps101
    go_wp2
    go_ret
    exact ⟨rfl, Below.refl _ _⟩
  · have hinfo : (Try.prog.info? 5).map (fun i => (i.zero, i.size, i.bytes)) = some (some (.int .u8 0), 1, 1) := by kernel_rfl
    have hone : (Try.prog.info? 5).map (·.size) = some 1 := by kernel_rfl
    have hco : Try.prog.cellsOf 5 = 1 := by kernel_rfl
    have hptr : Try.prog.underlying 173 = some (.pointer 5) := by kernel_rfl
    obtain ⟨M, hM⟩ : ∃ M, madeCells #[Value.int .u8 0] s.size = M := ⟨_, rfl⟩
    have hMs : M.size = s.size := by rw [← hM, size_madeCells]
    have hmk := run_make_row' (P := Try.prog) 76 5 (.int .u8 0) 1 Try.underlying76 hinfo rfl .i64 .i64 s.size (by omega) (by omega)
    rw [hM] at hmk
    have hcp := Lib.run_copy_row_string (P := Try.prog) (w.alloc (.cells M 5)) 76 9 3 5 w.heap.size 0 s.size s.size s M 5 Try.underlying76 hone (heap_alloc_new w _) (Nat.le_refl _) (by omega)
    obtain ⟨Y, hY⟩ : ∃ Y, (M.toList.take 0 ++ Lib.byteCells s.data.toList ++ M.toList.drop (0 + s.size)).toArray = Y := ⟨_, rfl⟩
    have hYl : Y.toList = byteCells s.data.toList := by
      rw [← hY, List.take_zero, List.nil_append, List.drop_of_length_le (by rw [Array.length_toList]; omega), List.append_nil]
      rfl
    rw [hY] at hcp
    have hYs : Y.size = s.size := by rw [← Array.length_toList, hYl, byteCells_length, ← hsl]
    have hgY : ((w.alloc (.cells M 5)).setRow w.heap.size Y).heap[w.heap.size]? = some (.cells Y 5 (0, 0)) := setRow_heap _ _ M _ 5 (0, 0) (heap_alloc_new w _)
    have hUS := Lib.run_unsafeString_row (P := Try.prog) ((w.alloc (.cells M 5)).setRow w.heap.size Y) 173 3 9 5 hptr hco w.heap.size Y.size (by unfold World.shape?; rw [hgY]) s.data.toList (fun e => h0 (by rw [hsl, e]; rfl)) (by omega) (by omega)
      (fun j x hx => by
        rw [row_add, cell_of_row _ _ _ _ _ _ hgY, ← Array.getElem?_toList, hYl]
        simp [byteCells, hx])
    rw [← hsl] at hUS
    have Hb : Hid (Below w.heap.size w (((w.alloc (.cells M 5)).setRow w.heap.size Y).freeze ⟨w.heap.size, 0, none⟩ s.size)) := Lib.hid (by
      have hb1 : Below w.heap.size w (w.alloc (.cells M 5)) := (Below.refl _ w).alloc (Nat.le_refl _) _
      have hb2 : Below w.heap.size (w.alloc (.cells M 5)) ((w.alloc (.cells M 5)).setRow w.heap.size Y) := ⟨rfl, rfl, rfl, by simp, fun k hk => setRow_other _ _ _ _ (by omega)⟩
      exact Lib.below_freeze (hb1.trans hb2) (p := ⟨w.heap.size, 0, none⟩) (Nat.le_refl _) _)
    have hpos : ((s.size : Int) == 0) = false := by simpa using h0
    have hpos0 : 0 < s.size := by omega
    clear hY hM hYl hYs hgY hinfo hone hco hptr hMs hsl h0
    go_enter Try.func101, Try.ntmps101
    go_wp2
    go_ret
    exact ⟨rfl, Hb.out⟩

theorem clone_any (s : ByteArray) (w : World) (hs : s.size ≤ 140737488355328) :
    Calls Try.prog 61 #[.string s] w fun e w' => e = .returned (.string s) ∧ Below w.heap.size w w' := by
  go_enter Try.func61, Try.ntmps61
  go_wp2_with fail
  refine (cloneLite_any s w hs).mono ?_
  rintro e w1 ⟨rfl, hb1⟩
  have Hb := Lib.hid hb1
  clear hb1
  go_wp2
  go_ret
  exact ⟨rfl, Hb.out⟩

end Go.Proofs.Ytaljojjpgkmiiaa

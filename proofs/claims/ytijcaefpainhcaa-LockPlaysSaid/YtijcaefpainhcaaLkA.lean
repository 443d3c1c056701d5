/- Layer 16: locks as they stand in memory: a box, a map of boxes, a row of ranges each. No condition. -/
import Derived.Test.YtijcaefpainhcaaSpecLock
import Derived.Test.YtijcaefpainhcaaRngA
import Derived.Maps.RangeWalk
import Derived.Lib.SlKeysI
namespace Go.Proofs.Ytijcaefpainhcaa
open Go.RowKit

/-- a lock in memory: what it is, its box, where its row of ranges lies -/
structure LE where
  p : TL
  b : Nat
  A : Option Addr
  c : Nat
def LE.v (e : LE) : Value := .pointer (some ⟨e.b, 0, none⟩)
def LE.row (e : LE) : Value := .slice e.A e.p.L.length e.c
def pl (M : List LE) : List TL := M.map LE.p
def lmap (M : List LE) : DataW Value := .map (M.map fun e => (.int .i64 e.p.n, .held e.v))
def getM (k : Int) (M : List LE) : Option LE := M.find? fun e => decide (e.p.n = k)
def delM (k : Int) (M : List LE) : List LE := M.filter fun e => !decide (e.p.n = k)
def updM (x : LE) (M : List LE) : List LE := M.map fun e => if e.p.n = x.p.n then x else e
def insM (x : LE) : List LE → List LE
  | [] => [x]
  | e :: l => if x.p.n < e.p.n then x :: e :: l else e :: insM x l
theorem pl_len (M : List LE) : (pl M).length = M.length := by simp [pl]
theorem pl_get (k : Int) : ∀ (M : List LE), getL k (pl M) = (getM k M).map LE.p
  | [] => rfl
  | e :: l => by
    have ih := pl_get k l
    unfold getL getM pl at ih ⊢
    simp only [List.map_cons, List.find?_cons]
    split
    · rfl
    · exact ih
theorem pl_del (k : Int) (M : List LE) : pl (delM k M) = delL k (pl M) := by
  unfold pl delM delL
  rw [List.filter_map]
  rfl
theorem pl_upd (x : LE) (M : List LE) : pl (updM x M) = updL x.p (pl M) := by
  unfold pl updM updL
  rw [List.map_map, List.map_map]
  refine List.map_congr_left fun e _ => ?_
  simp only [Function.comp]
  split <;> rfl
theorem pl_ins (x : LE) : ∀ (M : List LE), pl (insM x M) = insL x.p (pl M)
  | [] => rfl
  | e :: l => by
    have ih := pl_ins x l
    simp only [insM, pl, List.map_cons, insL] at ih ⊢
    split
    · rfl
    · simp only [List.map_cons, ih]
theorem getM_some {k : Int} {M : List LE} {e : LE} (h : getM k M = some e) : e ∈ M ∧ e.p.n = k :=
  ⟨List.mem_of_find?_eq_some h, by have := List.find?_some h; simpa using this⟩
theorem getM_none {k : Int} {M : List LE} (h : getM k M = none) : ∀ e ∈ M, e.p.n ≠ k := by
  intro e he
  have := List.find?_eq_none.1 h e he
  simpa using this
theorem riseM {M : List LE} (h : RiseL (pl M)) : M.Pairwise fun p q => p.p.n < q.p.n := by
  unfold RiseL pl at h
  rwa [List.pairwise_map] at h
theorem rise_eqM {M : List LE} (h : RiseL (pl M)) {p q : LE} (hp : p ∈ M) (hq : q ∈ M) (e : p.p.n = q.p.n) : p = q := by
  rcases pair_mem (riseM h) hp hq with h1 | h1 | h1
  · exact h1
  · omega
  · omega
theorem getM_mem {M : List LE} (h : RiseL (pl M)) {e : LE} (he : e ∈ M) : getM e.p.n M = some e := by
  cases hg : getM e.p.n M with
  | none => exact absurd rfl (getM_none hg e he)
  | some q =>
    obtain ⟨h1, h2⟩ := getM_some hg
    rw [rise_eqM h h1 he h2]
theorem sameKeyI (a b : Int) : (Lit.int .i64 a).sameKey (.int .i64 b) = decide (a = b) := by simp [Lit.sameKey]
theorem lmap_ins (x : LE) : ∀ (M : List LE), DataW.insert ((.int .i64 x.p.n, .held x.v) : Lit × DataW Value) (M.map fun e => ((.int .i64 e.p.n, .held e.v) : Lit × DataW Value)) = (insM x M).map fun e => ((.int .i64 e.p.n, .held e.v) : Lit × DataW Value)
  | [] => rfl
  | y :: l => by
    have ih := lmap_ins x l
    simp only [List.map_cons, DataW.insert, insM, Lit.before]
    by_cases h : x.p.n < y.p.n
    · simp [h]
    · simp only [h, decide_false, Bool.false_eq_true, if_false, List.map_cons, ih]
theorem lmap_put {x : LE} {M : List LE} (h : ∀ e ∈ M, e.p.n ≠ x.p.n) : (lmap M).put (.int .i64 x.p.n) (.held x.v) = lmap (insM x M) := by
  simp only [lmap, DataW.put, DataW.map.injEq]
  have hf : (M.map fun e => ((.int .i64 e.p.n, .held e.v) : Lit × DataW Value)).filter (fun p => !p.1.sameKey (.int .i64 x.p.n)) = M.map fun e => ((.int .i64 e.p.n, .held e.v) : Lit × DataW Value) := by
    refine List.filter_eq_self.2 fun q hq => ?_
    obtain ⟨p, hp, rfl⟩ := List.mem_map.1 hq
    have := h p hp
    simp [sameKeyI, this]
  rw [hf, lmap_ins]
theorem lmap_del (M : List LE) (k : Int) : (lmap M).del (.int .i64 k) = lmap (delM k M) := by
  simp only [lmap, DataW.del, DataW.map.injEq, delM]
  rw [List.filter_map]
  congr 1
  refine List.filter_congr fun p _ => ?_
  simp [sameKeyI]
theorem lmap_at (k : Int) (z : DataW Value) : ∀ (M : List LE), (lmap M).atKey (.int .i64 k) z = match getM k M with | some a => .held a.v | none => z
  | [] => rfl
  | y :: l => by
    have ih := lmap_at k z l
    simp only [lmap, DataW.atKey, List.map_cons, getM, List.find?_cons] at ih ⊢
    by_cases he : y.p.n = k
    · simp [sameKeyI, he]
    · simp only [sameKeyI, he, decide_false]
      exact ih
theorem lmap_has (k : Int) : ∀ (M : List LE), Maps.has (lmap M) (.int .i64 k) = (getM k M).isSome
  | [] => rfl
  | y :: l => by
    have ih := lmap_has k l
    simp only [lmap, Maps.has_eq, List.map_cons, getM, List.find?_cons, List.any_cons] at ih ⊢
    by_cases he : y.p.n = k
    · simp [sameKeyI, he]
    · simp only [sameKeyI, he, decide_false, Bool.false_or]
      exact ih
theorem lmap_size (M : List LE) : Maps.size (lmap M) = M.length := by simp [lmap, Maps.size]
theorem lmap_keys (M : List LE) : intKeys (lmap M) = (pl M).map (·.n) := by simp [lmap, intKeys, Go.intOf, pl]
theorem lmap_upd {x : LE} {M : List LE} (h : ∀ e ∈ M, e.p.n = x.p.n → e.b = x.b) : lmap (updM x M) = lmap M := by
  unfold lmap updM
  rw [List.map_map]
  congr 1
  refine List.map_congr_left fun e he => ?_
  simp only [Function.comp]
  split
  · rename_i h1
    rw [h1]
    unfold LE.v
    rw [h e he h1]
  · rfl
def Rn (v : Value) : Option (DataW Value × List MemPlace) := some (.held v, [])
theorem intKeyed : Maps.Keyed Try.prog 3 := Maps.int_keyed Try.underlying3
theorem mapL_block {w : World} {P : Program} {k : TypeId} {b n : Nat} {D : DataW Value} (h : w.ownsMap P k Rn b n D) : ∃ es c, w.heap[b]? = some (.map es c) := by
  obtain ⟨es, c, hb, _⟩ := h
  exact ⟨es, c, hb⟩
theorem mapL_keep {w w' : World} {P : Program} {k : TypeId} {b n : Nat} {D : DataW Value} (h : w.ownsMap P k Rn b n D) (hk : w'.heap[b]? = w.heap[b]?) : w'.ownsMap P k Rn b n D := by
  obtain ⟨es, c, hb, r⟩ := h
  exact ⟨es, c, hk.trans hb, r⟩
theorem mapL_size {w : World} {P : Program} {k : TypeId} {b n : Nat} {D : DataW Value} (h : w.ownsMap P k Rn b n D) : w.ownsMap P k Rn b (Maps.size D) D := by
  obtain ⟨es, c, hb, F, hs, rfl⟩ := h
  exact ⟨es, c, hb, F, by simp [Maps.size, length_sorted], rfl⟩
theorem ownL_keep {w w' : World} {B m size : Nat} {e : TypeId} {v : Value} {xs : List Value} (h : w.ownsRow B e size v m xs) (hk : ∀ g, v.ownBlock = some g → w'.heap[g]? = w.heap[g]?) : w'.ownsRow B e size v m xs := by
  refine ⟨h.1, ?_⟩
  rcases h.2 with hn | ⟨g, cap, cur, rfl, hB, hg, rest⟩
  · exact .inl hn
  · exact .inr ⟨g, cap, cur, rfl, hB, (hk g rfl).trans hg, rest⟩
/-- a row's block is of its elements' type -/
theorem ownL_type {w : World} {B m size : Nat} {e : TypeId} {v : Value} {xs : List Value} (h : w.ownsRow B e size v m xs) {g : Nat} (hg : v.ownBlock = some g) : ∃ cs, w.heap[g]? = some (.cells cs e) := by
  rcases h.2 with ⟨rfl, _⟩ | ⟨g1, cap, cur, rfl, hB, hh, rest⟩
  · cases hg
  · cases hg
    exact ⟨_, hh⟩
theorem types_ne {w : World} {g i : Nat} {t u : TypeId} {cs ds : Array Value} (h : w.heap[g]? = some (.cells cs t)) (k : w.heap[i]? = some (.cells ds u)) (hne : t ≠ u) : g ≠ i := by
  intro e
  subst e
  rw [h] at k
  injection k with k
  injection k with _ k
  exact hne k
theorem map_ne {w : World} {g i : Nat} {t : TypeId} {cs : Array Value} {es : Array MapEntry} {c : Nat} (h : w.heap[g]? = some (.cells cs t)) (k : w.heap[i]? = some (.map es c)) : g ≠ i := by
  intro e
  subst e
  rw [h] at k
  cases k

/-! ### what a table's blocks are, and what a call leaves of the others -/
/-- the blocks F, and those that have come since -/
def addF (F : Nat → Prop) (w w' : World) : Nat → Prop := fun i => F i ∨ (w.heap.size ≤ i ∧ i < w'.heap.size)
/-- nothing but the blocks F has turned -/
structure KeptF (F : Nat → Prop) (w w' : World) : Prop where
  os : w'.os = w.os
  tape : w'.tape = w.tape
  output : w'.output = w.output
  size : w.heap.size ≤ w'.heap.size
  block : ∀ i, i < w.heap.size → ¬ F i → w'.heap[i]? = w.heap[i]?
section
variable {F : Nat → Prop} {w w1 w2 w' : World}
theorem KeptF.of (h : Below w.heap.size w w') : KeptF F w w' := ⟨h.os, h.tape, h.output, h.size, fun i hi _ => h.block i hi⟩
theorem KeptF.trans (h : KeptF F w w1) (k : KeptF (addF F w w1) w1 w2) : KeptF F w w2 :=
  ⟨k.os.trans h.os, k.tape.trans h.tape, k.output.trans h.output, Nat.le_trans h.size k.size, fun i hi hF =>
    (k.block i (Nat.lt_of_lt_of_le hi h.size) (fun e => e.elim hF (fun e => absurd hi (by omega)))).trans (h.block i hi hF)⟩
theorem KeptF.trans0 (h : KeptF F w w1) (k : KeptF F w1 w2) : KeptF F w w2 :=
  ⟨k.os.trans h.os, k.tape.trans h.tape, k.output.trans h.output, Nat.le_trans h.size k.size, fun i hi hF => (k.block i (Nat.lt_of_lt_of_le hi h.size) hF).trans (h.block i hi hF)⟩
theorem KeptF.below {B : Nat} (h : KeptF F w w') (hF : ∀ i, F i → B ≤ i) (hB : B ≤ w.heap.size) : Below B w w' :=
  ⟨h.os, h.tape, h.output, h.size, fun i hi => h.block i (by omega) (fun e => by have := hF i e; omega)⟩
theorem KeptF.grown {g : Nat} (h : w.grownBy w' (some g)) (hg : F g) : KeptF F w w' :=
  ⟨h.os, h.tape, h.output, h.size, fun i hi hF => h.block i hi (fun e => by injection e with e; subst e; exact hF hg)⟩
theorem addF_two (h1 : w.heap.size ≤ w1.heap.size) (h2 : w1.heap.size ≤ w2.heap.size) : addF (addF F w w1) w1 w2 = addF F w w2 := by
  funext i
  unfold addF
  apply propext
  constructor
  · rintro ((h | h) | h)
    · exact .inl h
    · exact .inr (by omega)
    · exact .inr (by omega)
  · rintro (h | h)
    · exact .inl (.inl h)
    · by_cases hi : i < w1.heap.size
      · exact .inl (.inr (by omega))
      · exact .inr (by omega)
theorem addF_ge {B : Nat} (hF : ∀ i, F i → B ≤ i) (hB : B ≤ w.heap.size) : ∀ i, addF F w w' i → B ≤ i := fun i h => h.elim (hF i) (fun h => by omega)
end

/-- The pointer to block sb is a table of locks: its map in block mb, the locks M; all of it lies in blocks of F. -/
structure LkAt (w : World) (F : Nat → Prop) (sb mb : Nat) (lease : Int) (M : List LE) : Prop where
  sF : F sb
  mF : F mb
  eF : ∀ e ∈ M, F e.b ∧ ∀ g, e.row.ownBlock = some g → F g
  lt : ∀ i, F i → i < w.heap.size
  box : Box w sb 75 #[.int .i64 lease, .map (some mb)]
  own : w.ownsMap Try.prog 3 Rn mb M.length (lmap M)
  rise : RiseL (pl M)
  held : ∀ e ∈ M, Box w e.b 81 #[e.row, .int .i64 e.p.left]
  rows : ∀ e ∈ M, OwnRgs w 0 e.row e.p.L
  apart : M.Pairwise fun p q => p.b ≠ q.b ∧ ∀ g, p.row.ownBlock = some g → q.row.ownBlock ≠ some g
theorem typesL : (75 : TypeId) ≠ 81 ∧ (23 : TypeId) ≠ 81 ∧ (23 : TypeId) ≠ 75 := by decide
section
variable {F G : Nat → Prop} {w w' : World} {sb mb : Nat} {lease : Int} {M : List LE}
theorem LkAt.mono (h : LkAt w F sb mb lease M) (hG : ∀ i, F i → G i) (hl : ∀ i, G i → i < w.heap.size) : LkAt w G sb mb lease M :=
  { h with
    sF := hG _ h.sF
    mF := hG _ h.mF
    eF := fun e he => ⟨hG _ (h.eF e he).1, fun g hg => hG _ ((h.eF e he).2 g hg)⟩
    lt := hl }
/-- nothing of the table has turned -/
theorem LkAt.same (h : LkAt w F sb mb lease M) (hs : w.heap.size ≤ w'.heap.size) (hk : ∀ i, F i → w'.heap[i]? = w.heap[i]?) : LkAt w' F sb mb lease M :=
  { h with
    lt := fun i hi => Nat.lt_of_lt_of_le (h.lt i hi) hs
    box := (hk sb h.sF).trans h.box
    own := mapL_keep h.own (hk mb h.mF)
    held := fun e he => (hk _ (h.eF e he).1).trans (h.held e he)
    rows := fun e he => ownL_keep (h.rows e he) fun g hg => hk g ((h.eF e he).2 g hg) }
theorem LkAt.below (h : LkAt w F sb mb lease M) (hb : Below w.heap.size w w') : LkAt w' F sb mb lease M := h.same hb.size fun i hi => hb.block i (h.lt i hi)
theorem LkAt.other (h : LkAt w F sb mb lease M) (k : KeptF G w w') (hd : ∀ i, F i → ¬ G i) : LkAt w' F sb mb lease M := h.same k.size fun i hi => k.block i (h.lt i hi) (hd i hi)
theorem LkAt.add (h : LkAt w' F sb mb lease M) : LkAt w' (addF F w w') sb mb lease M := h.mono (fun _ hi => .inl hi) fun i hi => hi.elim (h.lt i) (fun hi => hi.2)
theorem LkAt.cells (h : LkAt w F sb mb lease M) : w.cell? ⟨sb, 0, none⟩ = some (.int .i64 lease) ∧ w.cell? ⟨sb, 1, none⟩ = some (.map (some mb)) := ⟨h.box.cell 0, h.box.cell 1⟩
theorem LkAt.heldCells (h : LkAt w F sb mb lease M) {e : LE} (he : e ∈ M) : (w.cell? ⟨e.b, 0, none⟩ = some e.row ∧ w.cell? ⟨e.b, 1, none⟩ = some (.int .i64 e.p.left)) ∧ w.frozen? ⟨e.b, 0, none⟩ = false ∧ w.frozen? ⟨e.b, 1, none⟩ = false :=
  ⟨⟨(h.held e he).cell 0, (h.held e he).cell 1⟩, (h.held e he).frozen 0, (h.held e he).frozen 1⟩
theorem LkAt.bNe (h : LkAt w F sb mb lease M) {e : LE} (he : e ∈ M) : e.b ≠ sb ∧ e.b ≠ mb ∧ ∀ g, e.row.ownBlock = some g → g ≠ sb ∧ g ≠ mb ∧ ∀ e' ∈ M, g ≠ e'.b := by
  obtain ⟨es, c, hm⟩ := mapL_block h.own
  have hb := h.held e he
  refine ⟨types_ne hb h.box typesL.1.symm, map_ne hb hm, fun g hg => ?_⟩
  obtain ⟨cs, hc⟩ := ownL_type (h.rows e he) hg
  exact ⟨types_ne hc h.box typesL.2.2, map_ne hc hm, fun e' he' => types_ne hc (h.held e' he') typesL.2.1⟩
theorem LkAt.smNe (h : LkAt w F sb mb lease M) : sb ≠ mb := by
  obtain ⟨es, c, hm⟩ := mapL_block h.own
  exact map_ne h.box hm
theorem apart_of (h : LkAt w F sb mb lease M) {e q : LE} (he : e ∈ M) (hq : q ∈ M) (hne : q.p.n ≠ e.p.n) : q.b ≠ e.b ∧ ∀ g, q.row.ownBlock = some g → e.row.ownBlock ≠ some g := by
  rcases pair_mem h.apart hq he with h1 | h1 | h1
  · exact absurd (congrArg (fun x => x.p.n) h1) hne
  · exact h1
  · exact ⟨fun e => h1.1 e.symm, fun g hg hg2 => h1.2 g hg2 hg⟩
/-- a lock's box and its row have turned -/
theorem LkAt.upd (h : LkAt w F sb mb lease M) {e x : LE} (he : e ∈ M) (hn : x.p.n = e.p.n) (hb : x.b = e.b) (os : w'.os = w.os) (tape : w'.tape = w.tape) (output : w'.output = w.output) (size : w.heap.size ≤ w'.heap.size)
    (hk : ∀ i, i < w.heap.size → i ≠ e.b → e.row.ownBlock ≠ some i → w'.heap[i]? = w.heap[i]?) (hbox : Box w' e.b 81 #[x.row, .int .i64 x.p.left]) (hrow : OwnRgs w' 0 x.row x.p.L)
    (hg : ∀ g, x.row.ownBlock = some g → e.row.ownBlock = some g ∨ w.heap.size ≤ g) : LkAt w' (addF F w w') sb mb lease (updM x M) ∧ KeptF F w w' := by
  have hne := h.bNe he
  have kk : ∀ i, F i → i ≠ e.b → e.row.ownBlock ≠ some i → w'.heap[i]? = w.heap[i]? := fun i hi => hk i (h.lt i hi)
  have hrl : ∀ g, x.row.ownBlock = some g → g < w'.heap.size := fun g hg' => (World.ownsRow.lt hrow g hg').2
  have others : ∀ q ∈ M, q.p.n ≠ e.p.n → (w'.heap[q.b]? = w.heap[q.b]?) ∧ ∀ g, q.row.ownBlock = some g → w'.heap[g]? = w.heap[g]? := by
    intro q hq hqn
    have ha := apart_of h he hq hqn
    refine ⟨kk _ (h.eF q hq).1 ha.1 (fun e1 => ((h.bNe he).2.2 _ e1).2.2 q hq rfl), fun g hg' => kk g ((h.eF q hq).2 g hg') (fun e1 => ?_) (ha.2 g hg')⟩
    exact ((h.bNe hq).2.2 g hg').2.2 e he e1
  have mem : ∀ q ∈ updM x M, q = x ∨ (q ∈ M ∧ q.p.n ≠ e.p.n) := by
    intro q hq
    obtain ⟨p, hp, rfl⟩ := List.mem_map.1 hq
    split
    · exact .inl rfl
    · rename_i h1; exact .inr ⟨hp, by rwa [hn] at h1⟩
  refine ⟨⟨.inl h.sF, .inl h.mF, ?_, ?_, ?_, ?_, ?_, ?_, ?_, ?_⟩, ⟨os, tape, output, size, fun i hi hF => hk i hi (fun e1 => hF (e1 ▸ (h.eF e he).1)) (fun e1 => hF ((h.eF e he).2 i e1))⟩⟩
  · intro q hq
    rcases mem q hq with rfl | ⟨hq, -⟩
    · refine ⟨.inl (hb ▸ (h.eF e he).1), fun g hg' => ?_⟩
      rcases hg g hg' with h1 | h1
      · exact .inl ((h.eF e he).2 g h1)
      · exact .inr ⟨h1, hrl g hg'⟩
    · exact ⟨.inl (h.eF q hq).1, fun g hg' => .inl ((h.eF q hq).2 g hg')⟩
  · exact fun i hi => hi.elim (fun hi => Nat.lt_of_lt_of_le (h.lt i hi) size) (fun hi => hi.2)
  · exact (kk sb h.sF (fun e1 => hne.1 e1.symm) (fun e1 => (hne.2.2 _ e1).1 rfl)).trans h.box
  · have e1 : lmap (updM x M) = lmap M := lmap_upd fun q hq hqn => by
      rw [rise_eqM h.rise hq he (hqn.trans hn)]
      exact hb.symm
    have e2 : (updM x M).length = M.length := by simp [updM]
    rw [e1, e2]
    exact mapL_keep h.own (kk mb h.mF (fun e1 => hne.2.1 e1.symm) (fun e1 => (hne.2.2 _ e1).2.1 rfl))
  · rw [pl_upd]
    exact updL_rise h.rise
  · intro q hq
    rcases mem q hq with rfl | ⟨hq, hqn⟩
    · rw [hb]; exact hbox
    · exact (others q hq hqn).1.trans (h.held q hq)
  · intro q hq
    rcases mem q hq with rfl | ⟨hq, hqn⟩
    · exact hrow
    · exact ownL_keep (h.rows q hq) (others q hq hqn).2
  · unfold updM
    rw [List.pairwise_map]
    have hx : ∀ q ∈ M, q.p.n ≠ e.p.n → q.b ≠ x.b ∧ ∀ g, q.row.ownBlock = some g → x.row.ownBlock ≠ some g := by
      intro q hq hqn
      have ha := apart_of h he hq hqn
      refine ⟨by rw [hb]; exact ha.1, fun g hg' hx' => ?_⟩
      rcases hg g hx' with h1 | h1
      · exact ha.2 g hg' h1
      · have := h.lt g ((h.eF q hq).2 g hg')
        omega
    refine List.Pairwise.imp_of_mem (fun {a c} ha hc hab => ?_) (List.pairwise_and_iff.2 ⟨h.apart, riseM h.rise⟩)
    obtain ⟨h1, h2⟩ := hab
    split
    · rename_i ea
      split
      · rename_i ec; omega
      · rename_i ec
        have := hx c hc (by omega)
        exact ⟨fun e1 => this.1 e1.symm, fun g hg1 hg2 => this.2 g hg2 hg1⟩
    · rename_i ea
      split
      · exact hx a ha (by omega)
      · exact h1
/-- a lock is gone -/
theorem LkAt.del (h : LkAt w F sb mb lease M) {k : Int} {n : Nat} (hM : w'.ownsMap Try.prog 3 Rn mb n ((lmap M).del (.int .i64 k))) (hT : w.mapTurned w' mb) : LkAt w' F sb mb lease (delM k M) ∧ KeptF F w w' := by
  have g := hT.grown
  have kk : ∀ i, i < w.heap.size → i ≠ mb → w'.heap[i]? = w.heap[i]? := fun i hi hne => g.block i hi (fun e => hne (by injection e))
  have sub : ∀ q ∈ delM k M, q ∈ M := fun q hq => (List.mem_filter.1 hq).1
  rw [lmap_del] at hM
  have hM2 := mapL_size hM
  rw [lmap_size] at hM2
  refine ⟨⟨h.sF, h.mF, fun q hq => h.eF q (sub q hq), fun i hi => Nat.lt_of_lt_of_le (h.lt i hi) g.size, (kk sb (h.lt _ h.sF) h.smNe).trans h.box, hM2, ?_, ?_, ?_, List.Pairwise.filter _ h.apart⟩, KeptF.grown g h.mF⟩
  · rw [pl_del]; exact delL_rise h.rise
  · exact fun q hq => (kk _ (h.lt _ (h.eF q (sub q hq)).1) (h.bNe (sub q hq)).2.1).trans (h.held q (sub q hq))
  · exact fun q hq => ownL_keep (h.rows q (sub q hq)) fun g hg => kk g (h.lt _ ((h.eF q (sub q hq)).2 g hg)) ((h.bNe (sub q hq)).2.2 g hg).2.1
theorem mem_insM {x q : LE} : ∀ {M : List LE}, q ∈ insM x M ↔ q = x ∨ q ∈ M
  | [] => by simp [insM]
  | e :: l => by
    unfold insM
    split
    · simp
    · simp only [List.mem_cons, mem_insM (M := l)]
      constructor
      · rintro (h | h | h) <;> simp [h]
      · rintro (h | h | h) <;> simp [h]
theorem pair_insM {R : LE → LE → Prop} (hs : ∀ a b, R a b → R b a) {x : LE} : ∀ {M : List LE}, M.Pairwise R → (∀ q ∈ M, R x q) → (insM x M).Pairwise R
  | [], _, _ => by simp [insM]
  | e :: l, h, hx => by
    obtain ⟨h1, h2⟩ := List.pairwise_cons.1 h
    unfold insM
    split
    · exact List.pairwise_cons.2 ⟨hx, h⟩
    · refine List.pairwise_cons.2 ⟨fun q hq => ?_, pair_insM hs h2 (fun q hq => hx q (by simp [hq]))⟩
      rcases mem_insM.1 hq with rfl | hq
      · exact hs _ _ (hx e (by simp))
      · exact h1 q hq
/-- a lock has come, with a box of its own and no ranges -/
theorem LkAt.ins (h : LkAt w F sb mb lease M) {k : Int} {b n : Nat} (hk : getM k M = none) (hF : F b) (hb : Box w b 81 #[.slice none 0 0, .int .i64 0]) (hnb : ∀ e ∈ M, e.b ≠ b)
    (hM : w'.ownsMap Try.prog 3 Rn mb n ((lmap M).put (.int .i64 k) (.held (.pointer (some ⟨b, 0, none⟩))))) (hT : w.mapTurned w' mb) : LkAt w' F sb mb lease (insM ⟨⟨k, [], 0⟩, b, none, 0⟩ M) ∧ KeptF F w w' := by
  have g := hT.grown
  have kk : ∀ i, i < w.heap.size → i ≠ mb → w'.heap[i]? = w.heap[i]? := fun i hi hne => g.block i hi (fun e => hne (by injection e))
  obtain ⟨es, c, hm⟩ := mapL_block h.own
  have e0 : (lmap M).put (.int .i64 k) (.held (.pointer (some ⟨b, 0, none⟩))) = lmap (insM ⟨⟨k, [], 0⟩, b, none, 0⟩ M) := lmap_put (x := ⟨⟨k, [], 0⟩, b, none, 0⟩) (getM_none hk)
  rw [e0] at hM
  have hM2 := mapL_size hM
  rw [lmap_size] at hM2
  refine ⟨⟨h.sF, h.mF, ?_, fun i hi => Nat.lt_of_lt_of_le (h.lt i hi) g.size, (kk sb (h.lt _ h.sF) h.smNe).trans h.box, hM2, ?_, ?_, ?_, ?_⟩, KeptF.grown g h.mF⟩
  · intro q hq
    rcases mem_insM.1 hq with rfl | hq
    · exact ⟨hF, fun g hg => by cases hg⟩
    · exact h.eF q hq
  · rw [pl_ins]
    refine insL_rise h.rise fun p hp => ?_
    obtain ⟨e, he, rfl⟩ := List.mem_map.1 hp
    exact getM_none hk e he
  · intro q hq
    rcases mem_insM.1 hq with rfl | hq
    · exact (kk b (h.lt _ hF) (map_ne hb hm)).trans hb
    · exact (kk _ (h.lt _ (h.eF q hq).1) (h.bNe hq).2.1).trans (h.held q hq)
  · intro q hq
    rcases mem_insM.1 hq with rfl | hq
    · exact OwnRgs.nil _ _
    · exact ownL_keep (h.rows q hq) fun g hg => kk g (h.lt _ ((h.eF q hq).2 g hg)) ((h.bNe hq).2.2 g hg).2.1
  · refine pair_insM (fun a b hab => ⟨fun e => hab.1 e.symm, fun g h1 h2 => hab.2 g h2 h1⟩) h.apart fun q hq => ⟨fun e => hnb q hq e.symm, fun g hg => by cases hg⟩
/-- 'v, ok := m[k]' of the table's map -/
theorem LkAt.look (h : LkAt w F sb mb lease M) (k : Int) (hk : (Lit.int .i64 k).wf = true) :
    (getM k M = none → (Instr.lookup 73 (.map (some mb)) (.int .i64 k) true).run Try.prog w = .ok (.tuple #[.pointer none, .bool false]) w) ∧
    (∀ e, getM k M = some e → (Instr.lookup 73 (.map (some mb)) (.int .i64 k) true).run Try.prog w = .ok (.tuple #[.pointer (some ⟨e.b, 0, none⟩), .bool true]) w) := by
  have hz : (zeroValue 79).run Try.prog w = .ok (.pointer none) w := Try.zeroValue79 w
  have hkey := Maps.keyOf_int_mk Try.underlying3 hk
  obtain ⟨v, ps, hrun, hv⟩ := h.own.look_ok intKeyed Try.underlying73 hz (zd := .held (.pointer none)) rfl hkey
  rw [lmap_has] at hrun
  rw [lmap_at] at hv
  simp only [Rn, Option.some.injEq, Prod.mk.injEq] at hv
  refine ⟨fun hg => ?_, fun e hg => ?_⟩
  · rw [hg] at hv hrun
    simp only [DataW.held.injEq] at hv
    rw [hv.1] at hrun
    exact hrun
  · rw [hg] at hv hrun
    simp only [DataW.held.injEq] at hv
    rw [hv.1] at hrun
    exact hrun
end

/-- THE STEP of a range over the table's map: a lock has come -/
theorem wpList_next_lk {w : World} {ops : Array Oper} {rest : List Oper} {o : Oper} {a : Act} {Q : Exit → Act → World → Prop} (hg : o.guard = none) (it : Operand) (hop : o.op = Op.next it false)
    (mb r n : Nat) (M : List LE) (left : Lit → Bool) (cnt : Nat) (hit : a.eval it = .pointer (some ⟨r, 0, none⟩)) (h : w.ranges Try.prog 3 Rn mb r n (lmap M) left cnt)
    (hDone : cnt = 0 → (∀ kl, left kl = false) → wpList Try.prog ops Q rest (a.put o.dst (.tuple #[.bool false])) w)
    (hMore : ∀ (e : LE) (w' : World) (cnt' : Nat), e ∈ M → (Lit.int .i64 e.p.n).wf = true → left (.int .i64 e.p.n) = true → w'.ranges Try.prog 3 Rn mb r n (lmap M) (fun z => left z && !z.sameKey (.int .i64 e.p.n)) cnt' → cnt' < cnt →
      w.grownBy w' (some r) → w'.heap.size = w.heap.size → (Instr.entry (.pointer (some ⟨r, 0, none⟩))).run Try.prog w' = .ok (.tuple #[.int .i64 e.p.n, .pointer (some ⟨e.b, 0, none⟩)]) w' → wpList Try.prog ops Q rest (a.put o.dst (.tuple #[.bool true, .int .i64 e.p.n, .pointer (some ⟨e.b, 0, none⟩)])) w') :
    wpList Try.prog ops Q (o :: rest) a w := by
  refine wpList_next_ranges w hg it hop 3 intKeyed Rn (Value.int .i64) (id : Value → Value) (fun key kl hkey => by obtain ⟨x, rfl, _⟩ := Maps.keyOf_int_inv Try.underlying3 hkey; exact ⟨x, rfl⟩) (fun v y _ => ⟨v, rfl⟩)
    mb r n (lmap M) left cnt hit h hDone (fun x c kl y w' cnt' hkey hlk hv hat hrg hlt hgr hsz hen => ?_)
  obtain ⟨x', ex, rfl, hwx⟩ := Maps.keyOf_int_inv Try.underlying3 hkey
  cases ex
  simp only [id, Rn, Option.some.injEq] at hv
  subst hv
  have h1 := hat .nil
  rw [lmap_at] at h1
  cases hgm : getM x M with
  | none => rw [hgm] at h1; cases h1
  | some e =>
    rw [hgm] at h1
    simp only [DataW.held.injEq] at h1
    obtain ⟨he, hx⟩ := getM_some hgm
    subst hx
    have hc : c = .pointer (some ⟨e.b, 0, none⟩) := h1.symm
    subst hc
    exact hMore e w' cnt' he hwx hlk hrg hlt hgr hsz hen
end Go.Proofs.Ytijcaefpainhcaa

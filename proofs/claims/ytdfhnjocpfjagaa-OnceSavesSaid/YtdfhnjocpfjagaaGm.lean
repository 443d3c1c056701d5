/- Rows of things by rising numbers, and maps by numbers that hold them. No condition. -/
import Derived.Test.YtdfhnjocpfjagaaAppend
import Derived.Test.YtdfhnjocpfjagaaVals
import Derived.Test.YtdfhnjocpfjagaaProg
import Derived.Maps.RangeWalk
import Derived.Maps.OwnSet
import Derived.Lib.SlKeysI
namespace Go.Proofs.Ytdfhnjocpfjagaa
open Go.RowKit

section
variable {α β : Type}
def getG (k : Int) (l : List (Int × α)) : Option α := (l.find? fun e => decide (e.1 = k)).map (·.2)
def delG (k : Int) (l : List (Int × α)) : List (Int × α) := l.filter fun e => !decide (e.1 = k)
def insG (k : Int) (a : α) : List (Int × α) → List (Int × α)
  | [] => [(k, a)]
  | e :: l => if k < e.1 then (k, a) :: e :: l else e :: insG k a l
def putG (k : Int) (a : α) (l : List (Int × α)) : List (Int × α) := insG k a (delG k l)
def mapG (f : α → β) (l : List (Int × α)) : List (Int × β) := l.map fun e => (e.1, f e.2)
def RiseG (l : List (Int × α)) : Prop := l.Pairwise fun p q => p.1 < q.1
def numsG (l : List (Int × α)) : List Int := l.map (·.1)
theorem getG_nil (k : Int) : getG k ([] : List (Int × α)) = none := rfl
theorem getG_cons (k : Int) (e : Int × α) (l : List (Int × α)) : getG k (e :: l) = if e.1 = k then some e.2 else getG k l := by
  unfold getG
  rw [List.find?_cons]
  by_cases h : e.1 = k <;> simp [h]
theorem getG_mem {k : Int} {a : α} : ∀ {l : List (Int × α)}, getG k l = some a → (k, a) ∈ l
  | [], h => by cases h
  | e :: l, h => by
    rw [getG_cons] at h
    split at h
    · next h1 =>
      injection h with h
      subst h1 h
      exact List.mem_cons_self
    · exact List.mem_cons_of_mem _ (getG_mem h)
theorem getG_none {k : Int} : ∀ {l : List (Int × α)}, getG k l = none ↔ ∀ e ∈ l, e.1 ≠ k
  | [] => by simp [getG_nil]
  | e :: l => by
    rw [getG_cons]
    by_cases h : e.1 = k
    · simp [h]
    · simp [h, getG_none (l := l)]
theorem getG_of {l : List (Int × α)} (h : RiseG l) {k : Int} {a : α} (hm : (k, a) ∈ l) : getG k l = some a := by
  induction l with
  | nil => cases hm
  | cons e l ih =>
    obtain ⟨h1, h2⟩ := List.pairwise_cons.1 h
    rw [getG_cons]
    rcases List.mem_cons.1 hm with rfl | hm
    · simp
    · have := h1 _ hm
      simp only at this
      rw [if_neg (by omega)]
      exact ih h2 hm
theorem getG_map (f : α → β) (k : Int) : ∀ (l : List (Int × α)), getG k (mapG f l) = (getG k l).map f
  | [] => rfl
  | e :: l => by
    unfold mapG
    rw [List.map_cons, getG_cons, getG_cons]
    split
    · rfl
    · exact getG_map f k l
theorem mapG_len (f : α → β) (l : List (Int × α)) : (mapG f l).length = l.length := by simp [mapG]
theorem mapG_nums (f : α → β) (l : List (Int × α)) : numsG (mapG f l) = numsG l := by simp [mapG, numsG]
theorem mapG_del (f : α → β) (k : Int) (l : List (Int × α)) : mapG f (delG k l) = delG k (mapG f l) := by
  unfold mapG delG
  rw [List.filter_map]
  rfl
theorem mapG_filter (f : α → β) (p : Int → Bool) (l : List (Int × α)) : mapG f (l.filter fun e => p e.1) = (mapG f l).filter fun e => p e.1 := by
  unfold mapG
  rw [List.filter_map]
  rfl
theorem mapG_ins (f : α → β) (k : Int) (a : α) : ∀ (l : List (Int × α)), mapG f (insG k a l) = insG k (f a) (mapG f l)
  | [] => rfl
  | e :: l => by
    have ih := mapG_ins f k a l
    simp only [insG, mapG, List.map_cons] at ih ⊢
    split
    · rfl
    · simp only [List.map_cons, ih]
theorem mapG_put (f : α → β) (k : Int) (a : α) (l : List (Int × α)) : mapG f (putG k a l) = putG k (f a) (mapG f l) := by
  unfold putG
  rw [mapG_ins, mapG_del]
theorem riseG_map {f : α → β} {l : List (Int × α)} : RiseG (mapG f l) ↔ RiseG l := by
  unfold RiseG mapG
  rw [List.pairwise_map]
theorem riseG_del {l : List (Int × α)} (h : RiseG l) (k : Int) : RiseG (delG k l) := List.Pairwise.filter _ h
theorem riseG_nums {l : List (Int × α)} (h : RiseG l) : (numsG l).Pairwise (· < ·) := by
  unfold numsG
  rw [List.pairwise_map]
  exact h
theorem mem_insG {k : Int} {a : α} {q : Int × α} : ∀ {l : List (Int × α)}, q ∈ insG k a l ↔ q = (k, a) ∨ q ∈ l
  | [] => by simp [insG]
  | e :: l => by
    unfold insG
    split
    · simp
    · simp only [List.mem_cons, mem_insG (l := l)]
      constructor
      · rintro (h | h | h) <;> simp [h]
      · rintro (h | h | h) <;> simp [h]
theorem mem_delG {k : Int} {q : Int × α} {l : List (Int × α)} : q ∈ delG k l ↔ q ∈ l ∧ q.1 ≠ k := by simp [delG]
theorem mem_putG {k : Int} {a : α} {q : Int × α} {l : List (Int × α)} : q ∈ putG k a l ↔ q = (k, a) ∨ (q ∈ l ∧ q.1 ≠ k) := by
  unfold putG
  rw [mem_insG, mem_delG]
theorem riseG_ins {k : Int} {a : α} : ∀ {l : List (Int × α)}, RiseG l → (∀ e ∈ l, e.1 ≠ k) → RiseG (insG k a l)
  | [], _, _ => by simp [insG, RiseG]
  | e :: l, h, hk => by
    obtain ⟨h1, h2⟩ := List.pairwise_cons.1 h
    have hek := hk e (by simp)
    unfold insG
    split
    · next h3 =>
      refine List.pairwise_cons.2 ⟨fun q hq => ?_, h⟩
      rcases List.mem_cons.1 hq with rfl | hq
      · exact h3
      · have := h1 q hq
        simp only
        omega
    · refine List.pairwise_cons.2 ⟨fun q hq => ?_, riseG_ins h2 fun q hq => hk q (by simp [hq])⟩
      rcases mem_insG.1 hq with rfl | hq
      · simp only; omega
      · exact h1 q hq
theorem riseG_put {k : Int} {a : α} {l : List (Int × α)} (h : RiseG l) : RiseG (putG k a l) := riseG_ins (riseG_del h k) fun _ he => (mem_delG.1 he).2
theorem getG_ins {k : Int} {a : α} (j : Int) : ∀ {l : List (Int × α)}, (∀ e ∈ l, e.1 ≠ k) → getG j (insG k a l) = if k = j then some a else getG j l
  | [], _ => by rw [insG, getG_cons]
  | e :: l, h => by
    have ih := getG_ins j (l := l) (a := a) (k := k) fun q hq => h q (by simp [hq])
    have h0 := h e (by simp)
    unfold insG
    split
    · rw [getG_cons]
    · rw [getG_cons, ih, getG_cons]
      by_cases h1 : e.1 = j
      · rw [if_pos h1, if_neg (by omega), if_pos h1]
      · rw [if_neg h1, if_neg h1]
theorem getG_filter (p : Int → Bool) (j : Int) : ∀ (l : List (Int × α)), getG j (l.filter fun e => p e.1) = if p j then getG j l else none
  | [] => by simp [getG_nil]
  | e :: l => by
    have ih := getG_filter p j l
    rw [List.filter_cons]
    by_cases h : p e.1 = true
    · rw [if_pos h, getG_cons, ih, getG_cons]
      by_cases h1 : e.1 = j
      · subst h1; simp [h]
      · simp [h1]
    · rw [if_neg h, ih, getG_cons]
      by_cases h1 : e.1 = j
      · subst h1; simp [h]
      · simp [h1]
theorem getG_del (k j : Int) (l : List (Int × α)) : getG j (delG k l) = if j = k then none else getG j l := by
  unfold delG
  rw [getG_filter (fun x => !decide (x = k))]
  by_cases h : j = k <;> simp [h]
theorem getG_put (k : Int) (a : α) (j : Int) (l : List (Int × α)) : getG j (putG k a l) = if k = j then some a else getG j l := by
  unfold putG
  rw [getG_ins j fun _ he => (mem_delG.1 he).2, getG_del]
  by_cases h : k = j
  · rw [if_pos h, if_pos h]
  · rw [if_neg h, if_neg h, if_neg (by omega)]
theorem delG_none {k : Int} {l : List (Int × α)} (h : getG k l = none) : delG k l = l := List.filter_eq_self.2 fun e he => by simp [getG_none.1 h e he]
theorem insG_len (k : Int) (a : α) : ∀ (l : List (Int × α)), (insG k a l).length = l.length + 1
  | [] => rfl
  | e :: l => by
    unfold insG
    split
    · rfl
    · simp [insG_len k a l]
theorem delG_len (k : Int) (l : List (Int × α)) : (delG k l).length ≤ l.length := List.length_filter_le _ _
theorem putG_len (k : Int) (a : α) (l : List (Int × α)) : (putG k a l).length ≤ l.length + 1 := by
  unfold putG
  rw [insG_len]
  have := delG_len k l
  omega
theorem delG_some_len {k : Int} {a : α} {l : List (Int × α)} (h : RiseG l) (hg : getG k l = some a) : (delG k l).length + 1 = l.length := by
  induction l with
  | nil => cases hg
  | cons e l ih =>
    obtain ⟨h1, h2⟩ := List.pairwise_cons.1 h
    rw [getG_cons] at hg
    unfold delG
    rw [List.filter_cons]
    by_cases he : e.1 = k
    · have h3 : l.filter (fun e => !decide (e.1 = k)) = l := List.filter_eq_self.2 fun q hq => by
        have := h1 q hq
        have : q.1 ≠ k := by omega
        simp [this]
      simp [he, h3]
    · rw [if_neg he] at hg
      have := ih h2 hg
      unfold delG at this
      simp [he]
      omega
/-- rows of rising numbers that give the same are the same -/
theorem extG : ∀ {a b : List (Int × α)}, RiseG a → RiseG b → (∀ k, getG k a = getG k b) → a = b
  | [], [], _, _, _ => rfl
  | [], e :: l, _, _, h => by have := h e.1; simp [getG_nil, getG_cons] at this
  | e :: l, [], _, _, h => by have := h e.1; simp [getG_nil, getG_cons] at this
  | e :: l, f :: m, ha, hb, h => by
    obtain ⟨a1, a2⟩ := List.pairwise_cons.1 ha
    obtain ⟨b1, b2⟩ := List.pairwise_cons.1 hb
    have hef : e = f := by
      have h1 := h e.1
      have h2 := h f.1
      rw [getG_cons, if_pos rfl] at h1
      rw [getG_cons f.1 f m, if_pos rfl] at h2
      have m1 := getG_mem h1.symm
      have m2 := getG_mem h2
      rcases List.mem_cons.1 m1 with m1 | m1
      · exact m1
      · rcases List.mem_cons.1 m2 with m2 | m2
        · exact m2.symm
        · have := b1 _ m1
          have := a1 _ m2
          simp only at *
          omega
    subst hef
    rw [extG a2 b2 fun k => ?_]
    have h1 := h k
    rw [getG_cons, getG_cons] at h1
    by_cases he : e.1 = k
    · have n1 : getG k l = none := getG_none.2 fun q hq => by have := a1 q hq; omega
      have n2 : getG k m = none := getG_none.2 fun q hq => by have := b1 q hq; omega
      rw [n1, n2]
    · rw [if_neg he, if_neg he] at h1
      exact h1
theorem pairInt_ext {a b : List Int} (ha : a.Pairwise (· < ·)) (hb : b.Pairwise (· < ·)) (h : ∀ x, x ∈ a ↔ x ∈ b) : a = b := by
  have h1 : RiseG (a.map fun x => (x, ())) := by unfold RiseG; rw [List.pairwise_map]; exact ha
  have h2 : RiseG (b.map fun x => (x, ())) := by unfold RiseG; rw [List.pairwise_map]; exact hb
  have key : ∀ (c : List Int) (k : Int), getG k (c.map fun x => (x, ())) = if k ∈ c then some () else none := by
    intro c k
    induction c with
    | nil => rfl
    | cons x c ih =>
      rw [List.map_cons, getG_cons, ih]
      by_cases hx : x = k
      · simp [hx]
      · have : ¬ k = x := fun e => hx e.symm
        simp [hx, this]
  have h3 := extG h1 h2 fun k => by
    rw [key, key]
    have := h k
    by_cases hk : k ∈ a
    · rw [if_pos hk, if_pos (this.1 hk)]
    · rw [if_neg hk, if_neg fun e => hk (this.2 e)]
  have h4 := congrArg (List.map Prod.fst) h3
  simpa [List.map_map, Function.comp_def] using h4
theorem mem_nums {k : Int} {l : List (Int × α)} : k ∈ numsG l ↔ (getG k l).isSome := by
  cases h : getG k l with
  | none =>
    simp only [Option.isSome_none, Bool.false_eq_true, iff_false]
    intro hk
    obtain ⟨e, he, rfl⟩ := List.mem_map.1 hk
    exact getG_none.1 h e he rfl
  | some a => simp; exact List.mem_map.2 ⟨_, getG_mem h, rfl⟩
end

/-! ### maps -/
section
variable {α : Type} (f : α → Value)
def gmap (M : List (Int × α)) : DataW Value := .map (M.map fun e => (.int .i64 e.1, .held (f e.2)))
theorem sameKeyG (a b : Int) : (Lit.int .i64 a).sameKey (.int .i64 b) = decide (a = b) := by simp [Lit.sameKey]
theorem gmap_ins (k : Int) (x : α) : ∀ (M : List (Int × α)), DataW.insert ((.int .i64 k, .held (f x)) : Lit × DataW Value) (M.map fun e => ((.int .i64 e.1, .held (f e.2)) : Lit × DataW Value)) = (insG k x M).map fun e => ((.int .i64 e.1, .held (f e.2)) : Lit × DataW Value)
  | [] => rfl
  | y :: l => by
    have ih := gmap_ins k x l
    simp only [List.map_cons, DataW.insert, insG, Lit.before]
    by_cases h : k < y.1
    · simp [h]
    · simp only [h, decide_false, Bool.false_eq_true, if_false, List.map_cons, ih]
theorem gmap_put (k : Int) (x : α) (M : List (Int × α)) : (gmap f M).put (.int .i64 k) (.held (f x)) = gmap f (putG k x M) := by
  simp only [gmap, DataW.put, DataW.map.injEq]
  have hf : (M.map fun e => ((.int .i64 e.1, .held (f e.2)) : Lit × DataW Value)).filter (fun p => !p.1.sameKey (.int .i64 k)) = (delG k M).map fun e => ((.int .i64 e.1, .held (f e.2)) : Lit × DataW Value) := by
    unfold delG
    rw [List.filter_map]
    congr 1
    refine List.filter_congr fun p _ => ?_
    simp [sameKeyG]
  rw [hf, gmap_ins]
  rfl
theorem gmap_del (M : List (Int × α)) (k : Int) : (gmap f M).del (.int .i64 k) = gmap f (delG k M) := by
  simp only [gmap, DataW.del, DataW.map.injEq, delG]
  rw [List.filter_map]
  congr 1
  refine List.filter_congr fun p _ => ?_
  simp [sameKeyG]
theorem gmap_at (k : Int) (z : DataW Value) : ∀ (M : List (Int × α)), (gmap f M).atKey (.int .i64 k) z = match getG k M with | some a => .held (f a) | none => z
  | [] => rfl
  | y :: l => by
    have ih := gmap_at k z l
    rw [getG_cons]
    simp only [gmap, DataW.atKey, List.map_cons, List.find?_cons] at ih ⊢
    by_cases he : y.1 = k
    · simp [sameKeyG, he]
    · simp only [sameKeyG, he, decide_false, if_false]
      exact ih
theorem gmap_has (k : Int) : ∀ (M : List (Int × α)), Maps.has (gmap f M) (.int .i64 k) = (getG k M).isSome
  | [] => rfl
  | y :: l => by
    have ih := gmap_has k l
    rw [getG_cons]
    simp only [gmap, Maps.has_eq, List.map_cons, List.any_cons] at ih ⊢
    by_cases he : y.1 = k
    · simp [sameKeyG, he]
    · simp only [sameKeyG, he, decide_false, Bool.false_or, if_false]
      exact ih
theorem gmap_size (M : List (Int × α)) : Maps.size (gmap f M) = M.length := by simp [gmap, Maps.size]
theorem gmap_keys (M : List (Int × α)) : intKeys (gmap f M) = numsG M := by simp [gmap, intKeys, Go.intOf, numsG]
end
def Rn (v : Value) : Option (DataW Value × List MemPlace) := some (.held v, [])
theorem intKeyed : Maps.Keyed Try.prog 3 := Maps.int_keyed Try.underlying3
theorem mapL_block {w : World} {P : Program} {k : TypeId} {b n : Nat} {D : DataW Value} (h : w.ownsMap P k Rn b n D) : ∃ es c, w.heap[b]? = some (.map es c) := by
  obtain ⟨es, c, hb, _⟩ := h
  exact ⟨es, c, hb⟩
theorem mapL_keep {w w' : World} {P : Program} {k : TypeId} {b n : Nat} {D : DataW Value} (h : w.ownsMap P k Rn b n D) (hk : w'.heap[b]? = w.heap[b]?) : w'.ownsMap P k Rn b n D := by
  obtain ⟨es, c, hb, r⟩ := h
  exact ⟨es, c, hk.trans hb, r⟩
theorem mapL_size {w : World} {P : Program} {k : TypeId} {b n : Nat} {D : DataW Value} (h : w.ownsMap P k Rn b n D) : w.ownsMap P k Rn b (Maps.size D) D := by
  obtain ⟨es, c, hb, F, hs, rfl⟩ := h
  exact ⟨es, c, hb, F, by simp [Maps.size, length_sorted], rfl⟩
theorem ownL_keep {w w' : World} {B m size : Nat} {e : TypeId} {v : Value} {xs : List Value} (h : w.ownsRow B e size v m xs) (hk : ∀ g, v.ownBlock = some g → w'.heap[g]? = w.heap[g]?) : w'.ownsRow B e size v m xs := by
  refine ⟨h.1, ?_⟩
  rcases h.2 with hn | ⟨g, cap, cur, rfl, hB, hg, rest⟩
  · exact .inl hn
  · exact .inr ⟨g, cap, cur, rfl, hB, (hk g rfl).trans hg, rest⟩
theorem ownL_type {w : World} {B m size : Nat} {e : TypeId} {v : Value} {xs : List Value} (h : w.ownsRow B e size v m xs) {g : Nat} (hg : v.ownBlock = some g) : ∃ cs, w.heap[g]? = some (.cells cs e) := by
  rcases h.2 with ⟨rfl, _⟩ | ⟨g1, cap, cur, rfl, hB, hh, rest⟩
  · cases hg
  · cases hg
    exact ⟨_, hh⟩
theorem types_ne {w : World} {g i : Nat} {t u : TypeId} {cs ds : Array Value} (h : w.heap[g]? = some (.cells cs t)) (k : w.heap[i]? = some (.cells ds u)) (hne : t ≠ u) : g ≠ i := by
  intro e
  subst e
  rw [h] at k
  injection k with k
  injection k with _ k
  exact hne k
theorem map_ne {w : World} {g i : Nat} {t : TypeId} {cs : Array Value} {es : Array MapEntry} {c : Nat} (h : w.heap[g]? = some (.cells cs t)) (k : w.heap[i]? = some (.map es c)) : g ≠ i := by
  intro e
  subst e
  rw [h] at k
  cases k
theorem wf_bounds {k : Int} (h : (Lit.int .i64 k).wf = true) : -9223372036854775808 ≤ k ∧ k ≤ 9223372036854775807 := by
  have h1 : IntKind.i64.min = -9223372036854775808 := by decide
  have h2 : IntKind.i64.max = 9223372036854775807 := by decide
  simpa only [Lit.wf, h1, h2, Bool.and_eq_true, decide_eq_true_eq] using h
theorem wf_of {k : Int} (h : -9223372036854775808 ≤ k ∧ k ≤ 9223372036854775807) : (Lit.int .i64 k).wf = true := by
  have h1 : IntKind.i64.min = -9223372036854775808 := by decide
  have h2 : IntKind.i64.max = 9223372036854775807 := by decide
  simpa only [Lit.wf, h1, h2, Bool.and_eq_true, decide_eq_true_eq] using h
theorem sort_ints {ss ks : List Int} (h : ss.Perm ks) (hk : ks.Pairwise (· < ·)) : ss.mergeSort (fun x y => decide (x ≤ y)) = ks := by
  have h1 : (ss.mergeSort (fun x y => decide (x ≤ y))).Perm ks := (List.mergeSort_perm ss _).trans h
  have h2 : (ss.mergeSort (fun x y => decide (x ≤ y))).Pairwise (· ≤ ·) := by
    have := List.pairwise_mergeSort (le := fun (x y : Int) => decide (x ≤ y)) (by intro a b c; simp; omega) (by intro a b; simp; omega) ss
    exact this.imp (by intro a b; simp)
  exact h1.eq_of_pairwise (fun a b _ _ h3 h4 => by omega) h2 (hk.imp (by intro a b; omega))

/-! ### the blocks of a structure, and what a call leaves of the others -/
/-- the blocks F, and those that have come since -/
def addF (F : Nat → Prop) (w w' : World) : Nat → Prop := fun i => F i ∨ (w.heap.size ≤ i ∧ i < w'.heap.size)
/-- nothing but the blocks F has turned -/
structure KeptF (F : Nat → Prop) (w w' : World) : Prop where
  os : w'.os = w.os
  tape : w'.tape = w.tape
  output : w'.output = w.output
  size : w.heap.size ≤ w'.heap.size
  block : ∀ i, i < w.heap.size → ¬ F i → w'.heap[i]? = w.heap[i]?
section
variable {F G : Nat → Prop} {w w1 w2 w' : World}
theorem KeptF.of (h : Below w.heap.size w w') : KeptF F w w' := ⟨h.os, h.tape, h.output, h.size, fun i hi _ => h.block i hi⟩
theorem KeptF.weak (h : KeptF F w w') (hG : ∀ i, i < w.heap.size → F i → G i) : KeptF G w w' := ⟨h.os, h.tape, h.output, h.size, fun i hi hn => h.block i hi fun e => hn (hG i hi e)⟩
theorem KeptF.trans (h : KeptF F w w1) (k : KeptF (addF F w w1) w1 w2) : KeptF F w w2 :=
  ⟨k.os.trans h.os, k.tape.trans h.tape, k.output.trans h.output, Nat.le_trans h.size k.size, fun i hi hF =>
    (k.block i (Nat.lt_of_lt_of_le hi h.size) (fun e => e.elim hF (fun e => absurd hi (by omega)))).trans (h.block i hi hF)⟩
theorem KeptF.trans0 (h : KeptF F w w1) (k : KeptF F w1 w2) : KeptF F w w2 :=
  ⟨k.os.trans h.os, k.tape.trans h.tape, k.output.trans h.output, Nat.le_trans h.size k.size, fun i hi hF => (k.block i (Nat.lt_of_lt_of_le hi h.size) hF).trans (h.block i hi hF)⟩
theorem KeptF.below {B : Nat} (h : KeptF F w w') (hF : ∀ i, F i → B ≤ i) (hB : B ≤ w.heap.size) : Below B w w' :=
  ⟨h.os, h.tape, h.output, h.size, fun i hi => h.block i (by omega) (fun e => by have := hF i e; omega)⟩
theorem KeptF.belowNew (h : KeptF F w1 w2) (hF : ∀ i, F i → w.heap.size ≤ i) (hb : Below w.heap.size w w1) : Below w.heap.size w w2 := hb.trans (h.below hF hb.size)
theorem KeptF.grown {g : Nat} (h : w.grownBy w' (some g)) (hg : F g) : KeptF F w w' :=
  ⟨h.os, h.tape, h.output, h.size, fun i hi hF => h.block i hi (fun e => by injection e with e; subst e; exact hF hg)⟩
theorem KeptF.box {g : Nat} {t : TypeId} {cs : Array Value} (k : KeptF F w w') (h : Box w g t cs) (hg : ¬ F g) : Box w' g t cs := (k.block g h.lt hg).trans h
theorem addF_two (h1 : w.heap.size ≤ w1.heap.size) (h2 : w1.heap.size ≤ w2.heap.size) : addF (addF F w w1) w1 w2 = addF F w w2 := by
  funext i
  unfold addF
  apply propext
  constructor
  · rintro ((h | h) | h)
    · exact .inl h
    · exact .inr (by omega)
    · exact .inr (by omega)
  · rintro (h | h)
    · exact .inl (.inl h)
    · by_cases hi : i < w1.heap.size
      · exact .inl (.inr (by omega))
      · exact .inr (by omega)
theorem addF_ge {B : Nat} (hF : ∀ i, F i → B ≤ i) (hB : B ≤ w.heap.size) : ∀ i, addF F w w' i → B ≤ i := fun i h => h.elim (hF i) (fun h => by omega)
theorem addF_keep (hs : w2.heap.size = w1.heap.size) : addF F w w2 = addF F w w1 := by unfold addF; rw [hs]
end
theorem grown_none {w w0 : World} (h : w.grownBy w0 none) : Below w.heap.size w w0 := ⟨h.os, h.tape, h.output, h.size, fun i hi => h.block i hi (by simp)⟩
theorem ranges_iter {w : World} {H : Type} {P : Program} {k : TypeId} {R : Value → Option (DataW H × List MemPlace)} {b r n : Nat} {D : DataW H} {left : Lit → Bool} {cnt : Nat} (h : w.ranges P k R b r n D left cnt) : ∃ a s x y, w.heap[r]? = some (.mapIter a s x y) := by
  obtain ⟨es, clock, since, seen, c0, hb, F, hs, hD, hr, rest⟩ := h
  exact ⟨_, _, _, _, hr⟩
theorem mapTurned_size {w w' : World} {b : Nat} (h : w.mapTurned w' b) : w'.heap.size = w.heap.size := by
  obtain ⟨es, c, es', c', hm, rfl⟩ := h
  simp [ChangeMaps.setBlock]
theorem mapTurned_block {w w' : World} {b i : Nat} (h : w.mapTurned w' b) (hi : i < w.heap.size) (hne : i ≠ b) : w'.heap[i]? = w.heap[i]? := h.grown.block i hi fun e => hne (by injection e)
theorem mapTurned_box {w w' : World} {b g : Nat} {t : TypeId} {cs : Array Value} (h : w.mapTurned w' b) (hb : Box w g t cs) : Box w' g t cs := by
  refine (mapTurned_block h hb.lt fun e => ?_).trans hb
  obtain ⟨es, c, es', c', hm, -⟩ := h
  exact map_ne hb hm e
theorem mapTurned_own {w w' : World} {b B m size : Nat} {e : TypeId} {v : Value} {xs : List Value} (h : w.mapTurned w' b) (ho : w.ownsRow B e size v m xs) : w'.ownsRow B e size v m xs := by
  refine ownL_keep ho fun g hg => ?_
  obtain ⟨cs, hc⟩ := ownL_type ho hg
  have hl : g < w.heap.size := (Array.getElem?_eq_some_iff.1 hc).1
  refine mapTurned_block h hl fun e => ?_
  obtain ⟨es, c, es', c', hm, -⟩ := h
  exact map_ne hc hm e
/-- THE STEP of a range over a map by numbers -/
theorem wpList_next_g {α : Type} {f : α → Value} {w : World} {ops : Array Oper} {rest : List Oper} {o : Oper} {a : Act} {Q : Exit → Act → World → Prop} (hg : o.guard = none) (it : Operand) (hop : o.op = Op.next it false)
    (mb r n : Nat) (M : List (Int × α)) (left : Lit → Bool) (cnt : Nat) (hit : a.eval it = .pointer (some ⟨r, 0, none⟩)) (h : w.ranges Try.prog 3 Rn mb r n (gmap f M) left cnt)
    (hDone : cnt = 0 → (∀ kl, left kl = false) → wpList Try.prog ops Q rest (a.put o.dst (.tuple #[.bool false])) w)
    (hMore : ∀ (k : Int) (x : α) (w' : World) (cnt' : Nat), getG k M = some x → (Lit.int .i64 k).wf = true → left (.int .i64 k) = true → w'.ranges Try.prog 3 Rn mb r n (gmap f M) (fun z => left z && !z.sameKey (.int .i64 k)) cnt' → cnt' < cnt →
      w.grownBy w' (some r) → w'.heap.size = w.heap.size → (Instr.entry (.pointer (some ⟨r, 0, none⟩))).run Try.prog w' = .ok (.tuple #[.int .i64 k, f x]) w' → wpList Try.prog ops Q rest (a.put o.dst (.tuple #[.bool true, .int .i64 k, f x])) w') :
    wpList Try.prog ops Q (o :: rest) a w := by
  refine wpList_next_ranges w hg it hop 3 intKeyed Rn (Value.int .i64) (id : Value → Value) (fun key kl hkey => by obtain ⟨x, rfl, _⟩ := Maps.keyOf_int_inv Try.underlying3 hkey; exact ⟨x, rfl⟩) (fun v y _ => ⟨v, rfl⟩)
    mb r n (gmap f M) left cnt hit h hDone (fun x c kl y w' cnt' hkey hlk hv hat hrg hlt hgr hsz hen => ?_)
  obtain ⟨x', ex, rfl, hwx⟩ := Maps.keyOf_int_inv Try.underlying3 hkey
  cases ex
  simp only [id, Rn, Option.some.injEq] at hv
  subst hv
  have h1 := hat .nil
  rw [gmap_at] at h1
  cases hgm : getG x M with
  | none => rw [hgm] at h1; cases h1
  | some e =>
    rw [hgm] at h1
    simp only [DataW.held.injEq] at h1
    have hc : c = f e := h1.symm
    subst hc
    exact hMore x e w' cnt' hgm hwx hlk hrg hlt hgr hsz hen
end Go.Proofs.Ytdfhnjocpfjagaa

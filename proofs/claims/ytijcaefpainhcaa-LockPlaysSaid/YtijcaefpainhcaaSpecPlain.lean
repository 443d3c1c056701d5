/-
  Layer 5 as plain mathematics: rows by rising keys, maps as read, what each operation answers and leaves. Nothing of the translated program is named here.
-/
import Derived.Test.YtijcaefpainhcaaSpecRec
import Derived.Sort.KeysCollected
namespace Go.Proofs.Ytijcaefpainhcaa
open Go.Lib (compareBytes)

/-! ### lists under rising keys -/
section
variable {α β : Type}
abbrev Kv (α : Type) := List (List UInt8 × α)
def putK (k : List UInt8) (a : α) : Kv α → Kv α
  | [] => [(k, a)]
  | y :: l => if k < y.1 then (k, a) :: y :: l else if y.1 = k then (k, a) :: l else y :: putK k a l
def delK (k : List UInt8) : Kv α → Kv α
  | [] => []
  | y :: l => if y.1 = k then l else y :: delK k l
def getK (k : List UInt8) : Kv α → Option α
  | [] => none
  | y :: l => if y.1 = k then some y.2 else getK k l
def Rise (l : Kv α) : Prop := l.Pairwise fun p q => p.1 < q.1
theorem lt_irr (a : List UInt8) : ¬ a < a := List.lt_irrefl a
theorem lt_tri (a b : List UInt8) : a < b ∨ a = b ∨ b < a := by
  rcases List.le_total a b with h | h
  · rcases (List.le_iff_lt_or_eq).1 h with h | h
    · exact .inl h
    · exact .inr (.inl h)
  · rcases (List.le_iff_lt_or_eq).1 h with h | h
    · exact .inr (.inr h)
    · exact .inr (.inl h.symm)
theorem lt_asymm' {a b : List UInt8} (h : a < b) : ¬ b < a := fun h' => lt_irr _ (List.lt_trans h h')
theorem bytesLess_lt : ∀ (x y : List UInt8), Op.bytesLess x y = decide (x < y)
  | [], [] => by simp [Op.bytesLess]
  | _ :: _, [] => by simp [Op.bytesLess]
  | [], _ :: _ => by simp [Op.bytesLess]
  | a :: x, b :: y => by
    rw [Op.bytesLess, bytesLess_lt x y]
    simp only [List.cons_lt_cons_iff]
    by_cases h1 : a < b <;> by_cases h2 : a = b <;> by_cases h3 : x < y <;> simp [h1, h2, h3]
theorem bytesBefore_lt : ∀ (x y : List UInt8), bytesBefore x y = decide (x < y)
  | [], [] => by simp [bytesBefore]
  | _ :: _, [] => by simp [bytesBefore]
  | [], _ :: _ => by simp [bytesBefore]
  | a :: x, b :: y => by
    rw [bytesBefore, bytesBefore_lt x y]
    simp only [List.cons_lt_cons_iff]
    by_cases h1 : a < b <;> by_cases h2 : a = b <;> by_cases h3 : x < y <;> simp [h1, h2, h3]

theorem Rise.nil : Rise ([] : Kv α) := List.Pairwise.nil
theorem mem_putK {k : List UInt8} {a : α} : ∀ {l : Kv α} {p : List UInt8 × α}, p ∈ putK k a l → p = (k, a) ∨ p ∈ l
  | [], p, h => by simp [putK] at h; exact .inl h
  | y :: l, p, h => by
    unfold putK at h
    split at h
    · rcases List.mem_cons.1 h with h | h
      · exact .inl h
      · exact .inr h
    · split at h
      · rcases List.mem_cons.1 h with h | h
        · exact .inl h
        · exact .inr (List.mem_cons_of_mem _ h)
      · rcases List.mem_cons.1 h with h | h
        · exact .inr (by simp [h])
        · rcases mem_putK h with h | h
          · exact .inl h
          · exact .inr (List.mem_cons_of_mem _ h)
theorem mem_delK {k : List UInt8} : ∀ {l : Kv α} {p : List UInt8 × α}, p ∈ delK k l → p ∈ l
  | [], p, h => by simp [delK] at h
  | y :: l, p, h => by
    unfold delK at h
    split at h
    · exact List.mem_cons_of_mem _ h
    · rcases List.mem_cons.1 h with h | h
      · simp [h]
      · exact List.mem_cons_of_mem _ (mem_delK h)
theorem Rise.put {k : List UInt8} {a : α} : ∀ {l : Kv α}, Rise l → Rise (putK k a l)
  | [], _ => by simp [putK, Rise]
  | y :: l, h => by
    obtain ⟨h1, h2⟩ := List.pairwise_cons.1 h
    unfold putK
    split
    · rename_i hlt
      refine List.pairwise_cons.2 ⟨fun q hq => ?_, h⟩
      rcases List.mem_cons.1 hq with rfl | hq
      · exact hlt
      · exact List.lt_trans hlt (h1 q hq)
    · rename_i hn
      split
      · rename_i he
        exact List.pairwise_cons.2 ⟨fun q hq => by simpa [← he] using h1 q hq, h2⟩
      · rename_i hne
        refine List.pairwise_cons.2 ⟨fun q hq => ?_, Rise.put h2⟩
        rcases mem_putK hq with rfl | hq
        · rcases lt_tri y.1 k with h | h | h
          · exact h
          · exact absurd h hne
          · exact absurd h hn
        · exact h1 q hq
theorem Rise.del {k : List UInt8} : ∀ {l : Kv α}, Rise l → Rise (delK k l)
  | [], _ => by simp [delK, Rise]
  | y :: l, h => by
    obtain ⟨h1, h2⟩ := List.pairwise_cons.1 h
    unfold delK
    split
    · exact h2
    · exact List.pairwise_cons.2 ⟨fun q hq => h1 q (mem_delK hq), Rise.del h2⟩
def mapK (f : α → β) (l : Kv α) : Kv β := l.map fun p => (p.1, f p.2)
theorem mapK_put (f : α → β) (k : List UInt8) (a : α) : ∀ (l : Kv α), mapK f (putK k a l) = putK k (f a) (mapK f l)
  | [] => rfl
  | y :: l => by
    have ih := mapK_put f k a l
    simp only [mapK, putK, List.map_cons] at ih ⊢
    split
    · rfl
    · split
      · rfl
      · simp [ih]
theorem mapK_del (f : α → β) (k : List UInt8) : ∀ (l : Kv α), mapK f (delK k l) = delK k (mapK f l)
  | [] => rfl
  | y :: l => by
    have ih := mapK_del f k l
    simp only [mapK, delK, List.map_cons] at ih ⊢
    split
    · rfl
    · simp [ih]
theorem mapK_get (f : α → β) (k : List UInt8) : ∀ (l : Kv α), getK k (mapK f l) = (getK k l).map f
  | [] => rfl
  | y :: l => by
    have ih := mapK_get f k l
    simp only [mapK, getK, List.map_cons] at ih ⊢
    split
    · rfl
    · exact ih
theorem rise_map (f : α → β) {l : Kv α} : Rise (mapK f l) ↔ Rise l := by
  unfold Rise mapK
  rw [List.pairwise_map]
theorem len_putK (k : List UInt8) (a : α) : ∀ (l : Kv α), (putK k a l).length ≤ l.length + 1
  | [] => by simp [putK]
  | y :: l => by
    have := len_putK k a l
    unfold putK
    split
    · simp
    · split <;> simp <;> omega
theorem len_delK (k : List UInt8) : ∀ (l : Kv α), (delK k l).length ≤ l.length
  | [] => by simp [delK]
  | y :: l => by
    have := len_delK k l
    unfold delK
    split <;> simp; omega
theorem getK_mem {k : List UInt8} {a : α} : ∀ {l : Kv α}, getK k l = some a → (k, a) ∈ l
  | [], h => by simp [getK] at h
  | y :: l, h => by
    unfold getK at h
    split at h
    · rename_i e
      obtain ⟨y1, y2⟩ := y
      simp only [Option.some.injEq] at h
      simp only at e
      simp [← e, ← h]
    · exact List.mem_cons_of_mem _ (getK_mem h)
theorem getK_of_mem {k : List UInt8} {a : α} : ∀ {l : Kv α}, Rise l → (k, a) ∈ l → getK k l = some a
  | [], _, h => by simp at h
  | y :: l, hr, h => by
    obtain ⟨h1, h2⟩ := List.pairwise_cons.1 hr
    unfold getK
    rcases List.mem_cons.1 h with h | h
    · subst h
      simp
    · have := h1 _ h
      rw [if_neg (fun e => by rw [e] at this; exact lt_irr _ this)]
      exact getK_of_mem h2 h
theorem getK_none {k : List UInt8} : ∀ {l : Kv α}, getK k l = none ↔ ∀ p ∈ l, p.1 ≠ k
  | [] => by simp [getK]
  | y :: l => by
    unfold getK
    by_cases h : y.1 = k
    · simp [h]
    · simp [h, getK_none (l := l)]

/-! ### how many keys stand below one -/
def posK (k : List UInt8) : Kv α → Nat
  | [] => 0
  | y :: l => if y.1 < k then posK k l + 1 else 0
theorem posK_le (k : List UInt8) : ∀ (l : Kv α), posK k l ≤ l.length
  | [] => by simp [posK]
  | y :: l => by
    have := posK_le k l
    unfold posK
    split <;> simp; omega
theorem putK_pos (k : List UInt8) (a : α) : ∀ (l : Kv α), Rise l → putK k a l = l.take (posK k l) ++ (k, a) :: l.drop (if (getK k l).isSome then posK k l + 1 else posK k l)
  | [], _ => by simp [putK, posK, getK]
  | y :: l, hr => by
    obtain ⟨h1, h2⟩ := List.pairwise_cons.1 hr
    have ih := putK_pos k a l h2
    rcases lt_tri k y.1 with h | h | h
    · have hn : getK k (y :: l) = none := getK_none.2 fun p hp e => by
        rcases List.mem_cons.1 hp with rfl | hp
        · rw [e] at h; exact lt_irr _ h
        · have := List.lt_trans h (h1 p hp)
          rw [e] at this
          exact lt_irr _ this
      rw [hn]
      simp [putK, posK, h, lt_asymm' h]
    · subst h
      simp [putK, posK, getK, lt_irr]
    · have hne : ¬ y.1 = k := fun e => by rw [e] at h; exact lt_irr _ h
      have hg : getK k (y :: l) = getK k l := by rw [getK, if_neg hne]
      rw [hg, putK, if_neg (lt_asymm' h), if_neg hne, ih, posK, if_pos h]
      cases getK k l <;> simp
theorem delK_pos (k : List UInt8) : ∀ (l : Kv α), Rise l → delK k l = if (getK k l).isSome then l.take (posK k l) ++ l.drop (posK k l + 1) else l
  | [], _ => by simp [delK, getK]
  | y :: l, hr => by
    obtain ⟨h1, h2⟩ := List.pairwise_cons.1 hr
    have ih := delK_pos k l h2
    by_cases he : y.1 = k
    · subst he
      simp [delK, getK, posK, lt_irr]
    · have hg : getK k (y :: l) = getK k l := by rw [getK, if_neg he]
      rw [hg, delK, if_neg he, ih]
      cases hgk : getK k l with
      | none => simp
      | some a =>
        have hm := h1 _ (getK_mem hgk)
        simp only at hm
        simp [posK, hm]
theorem getK_pos (k : List UInt8) : ∀ (l : Kv α), Rise l → getK k l = (l[posK k l]?).bind fun p => if p.1 = k then some p.2 else none
  | [], _ => by simp [getK, posK]
  | y :: l, hr => by
    obtain ⟨h1, h2⟩ := List.pairwise_cons.1 hr
    have ih := getK_pos k l h2
    by_cases h : y.1 < k
    · have hne : ¬ y.1 = k := fun e => by rw [e] at h; exact lt_irr _ h
      rw [getK, if_neg hne, ih, posK, if_pos h]
      simp
    · rw [posK, if_neg h]
      by_cases he : y.1 = k
      · simp [getK, he]
      · rw [getK, if_neg he]
        simp only [List.getElem?_cons_zero, Option.bind_some, if_neg he]
        refine getK_none.2 fun p hp e => ?_
        have := h1 p hp
        rw [e] at this
        exact h this
theorem posK_lt {k : List UInt8} : ∀ {l : Kv α} {i : Nat} {p : List UInt8 × α}, i < posK k l → l[i]? = some p → p.1 < k
  | [], i, p, h, _ => by simp [posK] at h
  | y :: l, i, p, h, hp => by
    unfold posK at h
    split at h
    · rename_i hy
      cases i with
      | zero => simp at hp; subst hp; exact hy
      | succ i => exact posK_lt (i := i) (l := l) (by omega) (by simpa using hp)
    · omega
theorem posK_at {k : List UInt8} : ∀ {l : Kv α} {p : List UInt8 × α}, l[posK k l]? = some p → ¬ p.1 < k
  | [], p, h => by simp at h
  | y :: l, p, h => by
    unfold posK at h
    split at h
    · exact posK_at (by simpa using h)
    · rename_i hy
      simp at h
      subst h
      exact hy

/-! ### a map as it is read -/
def dmap (val : α → Value) (l : Kv α) : DataW Value := .map (l.map fun p => (.string p.1, .held (val p.2)))
theorem sameKey_str (a b : List UInt8) : (Lit.string a).sameKey (.string b) = decide (a = b) := by
  simp only [Lit.sameKey]
  by_cases h : a = b <;> simp [h]
theorem filter_keys {val : α → Value} {k : List UInt8} {l : Kv α} (h : ∀ p ∈ l, p.1 ≠ k) :
    ((l.map fun p => ((Lit.string p.1, DataW.held (val p.2)) : Lit × DataW Value)).filter fun p => !p.1.sameKey (.string k)) = l.map fun p => (.string p.1, .held (val p.2)) := by
  refine List.filter_eq_self.2 fun p hp => ?_
  obtain ⟨q, hq, rfl⟩ := List.mem_map.1 hp
  simp [sameKey_str, h q hq]
theorem insert_keys {val : α → Value} {k : List UInt8} {d : DataW Value} : ∀ {l : Kv α}, (∀ p ∈ l, k < p.1) → DataW.insert (.string k, d) (l.map fun p => ((Lit.string p.1, DataW.held (val p.2)) : Lit × DataW Value)) = (.string k, d) :: l.map fun p => (.string p.1, .held (val p.2))
  | [], _ => rfl
  | y :: l, h => by
    have hy := h y (by simp)
    simp [DataW.insert, Lit.before, bytesBefore_lt, hy]
theorem dmap_put (val : α → Value) (k : List UInt8) (a : α) : ∀ (l : Kv α), Rise l → (dmap val l).put (.string k) (.held (val a)) = dmap val (putK k a l)
  | [], _ => rfl
  | y :: l, hr => by
    obtain ⟨h1, h2⟩ := List.pairwise_cons.1 hr
    have ih := dmap_put val k a l h2
    simp only [dmap, DataW.put, DataW.map.injEq, List.map_cons] at ih ⊢
    rcases lt_tri k y.1 with h | h | h
    · have hne : ¬ y.1 = k := fun e => by rw [e] at h; exact lt_irr _ h
      have hl : ∀ p ∈ l, k < p.1 := fun p hp => List.lt_trans h (h1 p hp)
      rw [List.filter_cons, if_pos (by simp [sameKey_str, hne]), filter_keys (fun p hp e => by have := hl p hp; rw [e] at this; exact lt_irr _ this)]
      simp [DataW.insert, Lit.before, bytesBefore_lt, h, putK]
    · subst h
      rw [List.filter_cons, if_neg (by simp [sameKey_str]), filter_keys (fun p hp e => by have := h1 p hp; rw [e] at this; exact lt_irr _ this), insert_keys h1]
      simp [putK, lt_irr]
    · have hne : ¬ y.1 = k := fun e => by rw [e] at h; exact lt_irr _ h
      rw [List.filter_cons, if_pos (by simp [sameKey_str, hne])]
      simp only [DataW.insert, Lit.before, bytesBefore_lt, lt_asymm' h, decide_false, Bool.false_eq_true, if_false, ih, putK, hne, List.map_cons]
theorem dmap_del (val : α → Value) (k : List UInt8) : ∀ (l : Kv α), Rise l → (dmap val l).del (.string k) = dmap val (delK k l)
  | [], _ => rfl
  | y :: l, hr => by
    obtain ⟨h1, h2⟩ := List.pairwise_cons.1 hr
    have ih := dmap_del val k l h2
    simp only [dmap, DataW.del, DataW.map.injEq, List.map_cons] at ih ⊢
    by_cases he : y.1 = k
    · subst he
      rw [List.filter_cons, if_neg (by simp [sameKey_str]), filter_keys (fun p hp e => by have := h1 p hp; rw [e] at this; exact lt_irr _ this)]
      simp [delK]
    · rw [List.filter_cons, if_pos (by simp [sameKey_str, he]), ih]
      simp [delK, he]
theorem dmap_at (val : α → Value) (k : List UInt8) (z : DataW Value) : ∀ (l : Kv α), (dmap val l).atKey (.string k) z = match getK k l with | some a => .held (val a) | none => z
  | [] => rfl
  | y :: l => by
    have ih := dmap_at val k z l
    simp only [dmap, DataW.atKey, List.map_cons, getK] at ih ⊢
    by_cases he : y.1 = k
    · simp [sameKey_str, he]
    · rw [List.find?_cons]
      simp only [sameKey_str, he, decide_false, if_false]
      exact ih
theorem dmap_has (val : α → Value) (k : List UInt8) : ∀ (l : Kv α), Maps.has (dmap val l) (.string k) = (getK k l).isSome
  | [] => rfl
  | y :: l => by
    have ih := dmap_has val k l
    simp only [dmap, Maps.has_eq, List.map_cons, getK, List.any_cons] at ih ⊢
    by_cases he : y.1 = k
    · simp [sameKey_str, he]
    · simp only [sameKey_str, he, decide_false, Bool.false_or, if_false]
      exact ih
theorem dmap_size (val : α → Value) (l : Kv α) : Maps.size (dmap val l) = l.length := by simp [dmap, Maps.size]
theorem dmap_keys (val : α → Value) (l : Kv α) : strKeys (dmap val l) = l.map (·.1) := by simp [dmap, strKeys, strOf]
/-- a rising row of keys is what sorting gives, from whatever order -/
theorem sort_rise {ss ks : List (List UInt8)} (h : ss.Perm ks) (hk : ks.Pairwise (· < ·)) : ss.mergeSort (fun x y => decide (x ≤ y)) = ks := by
  have e : ss.mergeSort leB = ks.mergeSort leB := mergeSort_of_perm h
  show ss.mergeSort leB = ks
  rw [e]
  refine List.mergeSort_of_pairwise ?_
  exact hk.imp fun {a b} h => by simpa [leB] using List.le_of_lt h
end
end Go.Proofs.Ytijcaefpainhcaa

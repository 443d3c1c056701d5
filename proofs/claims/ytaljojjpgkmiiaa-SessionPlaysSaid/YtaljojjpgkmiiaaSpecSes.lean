/- Layer 15 in plain words: an end of a road. No condition. -/
namespace Go.Proofs.Ytaljojjpgkmiiaa

/-- an end: its mark, how many texts were ever sent, those that wait -/
structure SE where
  m : Nat
  s : Nat
  l : List ByteArray
/-- a text under its number -/
structure SIt where
  n : Nat
  b : ByteArray
def SE.send (E : SE) (x : ByteArray) : SE × Nat × Nat :=
  if 65536 < x.size then (E, 0, 4) else if 256 ≤ E.l.length ∨ 1099511627776 ≤ E.s then (E, 0, 17) else (⟨E.m, E.s + 1, E.l ++ [x]⟩, E.s + 1, 0)
def SE.take (E : SE) (k : Int) : SE × Bool := if k = (E.m : Int) + 1 ∧ k ≤ 1099511627776 then (⟨k.toNat, E.s, E.l⟩, true) else (E, false)
def SE.acked (E : SE) (k : Int) : SE × Nat :=
  if (E.s : Int) - E.l.length < k ∧ k ≤ E.s then (⟨E.m, E.s, E.l.drop (k.toNat - (E.s - E.l.length))⟩, k.toNat - (E.s - E.l.length)) else (E, 0)
def itemsFrom (k : Nat) : List ByteArray → List SIt
  | [] => []
  | x :: l => ⟨k, x⟩ :: itemsFrom (k + 1) l
def SE.post (E : SE) (n : Int) : List SIt := itemsFrom (E.s - E.l.length + 1) (E.l.take n.toNat)
structure SE.Good (E : SE) : Prop where
  ml : E.m ≤ 1099511627776
  sl : E.s ≤ 1099511627776
  ll : E.l.length ≤ 256
  le : E.l.length ≤ E.s
  tx : ∀ x ∈ E.l, x.size ≤ 65536
theorem itemsFrom_len : ∀ (l : List ByteArray) (k : Nat), (itemsFrom k l).length = l.length
  | [], _ => rfl
  | x :: l, k => by simp [itemsFrom, itemsFrom_len l]
theorem itemsFrom_at : ∀ (l : List ByteArray) (k i : Nat), (itemsFrom k l)[i]? = l[i]?.map fun x => ⟨k + i, x⟩
  | [], _, _ => by simp [itemsFrom]
  | x :: l, k, 0 => by simp [itemsFrom]
  | x :: l, k, i + 1 => by
    have h := itemsFrom_at l (k + 1) i
    simp only [itemsFrom, List.getElem?_cons_succ, h]
    rw [show k + 1 + i = k + (i + 1) from by omega]
theorem itemsFrom_snoc : ∀ (l : List ByteArray) (k : Nat) (x : ByteArray), itemsFrom k (l ++ [x]) = itemsFrom k l ++ [⟨k + l.length, x⟩]
  | [], k, x => by simp [itemsFrom]
  | y :: l, k, x => by
    have h := itemsFrom_snoc l (k + 1) x
    simp only [itemsFrom, List.cons_append, h, List.length_cons]
    rw [show k + 1 + l.length = k + (l.length + 1) from by omega]
section
variable {E : SE}
theorem SE.Good.new : SE.Good ⟨0, 0, []⟩ := ⟨by simp, by simp, by simp, by simp, by simp⟩
theorem SE.Good.send (h : E.Good) (x : ByteArray) : (E.send x).1.Good := by
  unfold SE.send
  by_cases h1 : 65536 < x.size
  · rw [if_pos h1]; exact h
  · rw [if_neg h1]
    by_cases h2 : 256 ≤ E.l.length ∨ 1099511627776 ≤ E.s
    · rw [if_pos h2]; exact h
    · rw [if_neg h2]
      refine ⟨h.ml, by simp only; omega, by simp; omega, by have := h.le; simp; omega, fun y hy => ?_⟩
      rcases List.mem_append.1 hy with hy | hy
      · exact h.tx y hy
      · simp at hy; subst hy; omega
theorem SE.Good.take (h : E.Good) (k : Int) : (E.take k).1.Good := by
  unfold SE.take
  by_cases h1 : k = (E.m : Int) + 1 ∧ k ≤ 1099511627776
  · rw [if_pos h1]
    exact ⟨by simp only; omega, h.sl, h.ll, h.le, h.tx⟩
  · rw [if_neg h1]; exact h
theorem SE.Good.acked (h : E.Good) (k : Int) : (E.acked k).1.Good := by
  unfold SE.acked
  split
  · refine ⟨h.ml, h.sl, ?_, ?_, fun y hy => h.tx y (List.mem_of_mem_drop hy)⟩
    · have := h.ll; simp; omega
    · have := h.le; simp; omega
  · exact h
end
end Go.Proofs.Ytaljojjpgkmiiaa

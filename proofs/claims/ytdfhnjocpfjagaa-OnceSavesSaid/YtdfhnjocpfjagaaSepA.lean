/- Structures in memory side by side, each in blocks of its own: one of them turns, one comes, all stay. No condition. -/
import Derived.Test.YtdfhnjocpfjagaaGm
namespace Go.Proofs.Ytdfhnjocpfjagaa
open Go.RowKit

/-- a structure's words: its blocks are there; where they stay it stays; they may be told larger -/
structure Sepable {Ω : Type} (K : World → World → Prop) (At : World → (Nat → Prop) → Ω → Prop) : Prop where
  lt : ∀ {w F o}, At w F o → ∀ i, F i → i < w.heap.size
  same : ∀ {w w' F o}, At w F o → w.heap.size ≤ w'.heap.size → (∀ i, F i → w'.heap[i]? = w.heap[i]?) → K w w' → At w' F o
  of : ∀ {w w'}, Below w.heap.size w w' → K w w'
/-- the structures l lie side by side above block B -/
def Sep {Ω : Type} (At : World → (Nat → Prop) → Ω → Prop) (B : Nat) (w : World) (l : List Ω) : Prop :=
  ∃ F : Nat → Nat → Prop, (∀ k o, l[k]? = some o → At w (F k) o) ∧ (∀ k i, F k i → B ≤ i ∧ i < w.heap.size) ∧ (∀ j k i, F j i → F k i → j = k) ∧ ∀ k i, l.length ≤ k → ¬ F k i
section
variable {Ω : Type} {K : World → World → Prop} {At : World → (Nat → Prop) → Ω → Prop} {B : Nat} {w w' : World} {l : List Ω}
theorem Sep.nil : Sep At B w [] := ⟨fun _ _ => False, by simp, by simp, by simp, by simp⟩
theorem Sep.below (A : Sepable K At) (h : Sep At B w l) (hb : Below w.heap.size w w') : Sep At B w' l := by
  obtain ⟨F, h1, h2, h3, h4⟩ := h
  exact ⟨F, fun k o ho => A.same (h1 k o ho) hb.size (fun i hi => hb.block i (h2 k i hi).2) (A.of hb), fun k i hi => ⟨(h2 k i hi).1, Nat.lt_of_lt_of_le (h2 k i hi).2 hb.size⟩, h3, h4⟩
/-- structure k alone, and what stands behind a call that turns it -/
theorem Sep.step (A : Sepable K At) (h : Sep At B w l) (hB : B ≤ w.heap.size) {k : Nat} {o : Ω} (hk : l[k]? = some o) :
    ∃ F, At w F o ∧ (∀ i, F i → B ≤ i) ∧ ∀ w' o', KeptF F w w' → K w w' → At w' (addF F w w') o' → Sep At B w' (l.set k o') ∧ Below B w w' := by
  obtain ⟨F, h1, h2, h3, h4⟩ := h
  refine ⟨F k, h1 k o hk, fun i hi => (h2 k i hi).1, fun w' o' kk kv ho' => ⟨⟨fun j => if j = k then addF (F k) w w' else F j, ?_, ?_, ?_, ?_⟩, kk.below (fun i hi => (h2 k i hi).1) hB⟩⟩
  · intro j q hq
    by_cases hj : j = k
    · subst hj
      have hl : j < l.length := (List.getElem?_eq_some_iff.1 hk).1
      rw [List.getElem?_set_self hl] at hq
      injection hq with hq
      subst hq
      simp only [if_true]
      exact ho'
    · rw [List.getElem?_set_ne (by omega)] at hq
      simp only [hj, if_false]
      exact A.same (h1 j q hq) kk.size (fun i hi => kk.block i (h2 j i hi).2 fun e => hj (h3 j k i hi e)) kv
  · intro j i hi
    by_cases hj : j = k
    · simp only [hj, if_true] at hi
      rcases hi with hi | hi
      · exact ⟨(h2 k i hi).1, Nat.lt_of_lt_of_le (h2 k i hi).2 kk.size⟩
      · exact ⟨by omega, hi.2⟩
    · simp only [hj, if_false] at hi
      exact ⟨(h2 j i hi).1, Nat.lt_of_lt_of_le (h2 j i hi).2 kk.size⟩
  · intro j j' i hi hi'
    by_cases hj : j = k
    · by_cases hj' : j' = k
      · omega
      · simp only [hj, hj', if_true, if_false] at hi hi'
        rcases hi with hi | hi
        · exact absurd (h3 j' k i hi' hi) hj'
        · have := (h2 j' i hi').2; omega
    · by_cases hj' : j' = k
      · simp only [hj, hj', if_true, if_false] at hi hi'
        rcases hi' with hi' | hi'
        · exact absurd (h3 j k i hi hi') hj
        · have := (h2 j i hi).2; omega
      · simp only [hj, hj', if_false] at hi hi'
        exact h3 j j' i hi hi'
  · intro j i hj hi
    rw [List.length_set] at hj
    have hl : k < l.length := (List.getElem?_eq_some_iff.1 hk).1
    have hjk : ¬ j = k := by omega
    simp only [hjk, if_false] at hi
    exact h4 j i hj hi
/-- structure k is read alone -/
theorem Sep.at_ (h : Sep At B w l) {k : Nat} {o : Ω} (hk : l[k]? = some o) : ∃ F, At w F o ∧ ∀ i, F i → B ≤ i := by
  obtain ⟨F, h1, h2, h3, h4⟩ := h
  exact ⟨F k, h1 k o hk, fun i hi => (h2 k i hi).1⟩
/-- a structure has come, of new blocks -/
theorem Sep.new (A : Sepable K At) (h : Sep At B w l) (hB : B ≤ w.heap.size) (hb : Below w.heap.size w w') {o : Ω} (ho : At w' (addF (fun _ => False) w w') o) : Sep At B w' (l ++ [o]) := by
  obtain ⟨F, h1, h2, h3, h4⟩ := h.below A hb
  have h5 : ∀ k i, F k i → k < l.length := fun k i hi => Decidable.byContradiction fun e => h4 k i (by omega) hi
  obtain ⟨F0, g1, g2, g3, g4⟩ := h
  refine ⟨fun j i => if j = l.length then addF (fun _ => False) w w' i else F0 j i, ?_, ?_, ?_, ?_⟩
  · intro j q hq
    by_cases hj : j = l.length
    · subst hj
      rw [List.getElem?_append_right (Nat.le_refl _), Nat.sub_self] at hq
      simp at hq
      subst hq
      simp only [if_true]
      exact ho
    · have hjl : j < l.length := by
        have := (List.getElem?_eq_some_iff.1 hq).1
        simp at this
        omega
      rw [List.getElem?_append_left hjl] at hq
      simp only [hj, if_false]
      exact A.same (g1 j q hq) hb.size (fun i hi => hb.block i (g2 j i hi).2) (A.of hb)
  · intro j i hi
    by_cases hj : j = l.length
    · simp only [hj, if_true] at hi
      rcases hi with hi | hi
      · exact hi.elim
      · exact ⟨by omega, hi.2⟩
    · simp only [hj, if_false] at hi
      exact ⟨(g2 j i hi).1, Nat.lt_of_lt_of_le (g2 j i hi).2 hb.size⟩
  · intro j j' i hi hi'
    by_cases hj : j = l.length
    · by_cases hj' : j' = l.length
      · omega
      · simp only [hj, hj', if_true, if_false] at hi hi'
        rcases hi with hi | hi
        · exact hi.elim
        · have := (g2 j' i hi').2; omega
    · by_cases hj' : j' = l.length
      · simp only [hj, hj', if_true, if_false] at hi hi'
        rcases hi' with hi' | hi'
        · exact hi'.elim
        · have := (g2 j i hi).2; omega
      · simp only [hj, hj', if_false] at hi hi'
        exact g3 j j' i hi hi'
  · intro j i hj hi
    rw [List.length_append, List.length_singleton] at hj
    have hjk : ¬ j = l.length := by omega
    simp only [hjk, if_false] at hi
    exact g4 j i (by omega) hi
/-- a structure is forgotten -/
theorem Sep.take (h : Sep At B w l) (n : Nat) : Sep At B w (l.take n) := by
  obtain ⟨F, h1, h2, h3, h4⟩ := h
  refine ⟨fun k i => k < n ∧ F k i, fun k o ho => ?_, fun k i hi => h2 k i hi.2, fun j k i hi hi' => h3 j k i hi.2 hi'.2, fun k i hk hi => ?_⟩
  · have hkn : k < n := by
      have := (List.getElem?_eq_some_iff.1 ho).1
      rw [List.length_take] at this
      omega
    rw [List.getElem?_take, if_pos hkn] at ho
    have e : (fun i => k < n ∧ F k i) = F k := by funext i; simp [hkn]
    show At w (fun i => k < n ∧ F k i) o
    rw [e]
    exact h1 k o ho
  · rw [List.length_take] at hk
    exact h4 k i (by omega) hi.2
end
end Go.Proofs.Ytdfhnjocpfjagaa

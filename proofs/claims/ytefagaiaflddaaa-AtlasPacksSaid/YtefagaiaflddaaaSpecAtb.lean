/-
  Layer 12 as plain mathematics: there and back. Nothing of the translated program is named here.
-/
import Derived.Test.YtefagaiaflddaaaSpecAtl
namespace Go.Proofs.Ytefagaiaflddaaa

theorem small_right {l : List Pt} (h : RightP l) : ∀ p ∈ l, p.lo.size ≤ 100 := fun p hp => by
  have := (h.each p hp).1
  have e : p.lb.length = p.lo.size := (Lib.size_eq p.lo).symm
  omega
/-- how a split map stands -/
theorem split_hold {l l' : List Pt} {s : ByteArray} (h : RightP l) (e : splitP l s = some l') :
    ∃ i p, HoldIs l s.data.toList i ∧ l[i]? = some p ∧ p.lb < s.data.toList ∧ l' = l.take (i + 1) ++ ⟨s, p.n⟩ :: l.drop (i + 1) := by
  have hi := hold_is h s.data.toList
  unfold splitP at e
  split at e
  · cases e
  · rename_i hn
    injection e with e
    obtain ⟨i, hie⟩ : ∃ i, holdN l s.data.toList = i := ⟨_, rfl⟩
    rw [hie] at hi e hn
    obtain ⟨p, hp, h1⟩ := hi.1
    rw [ptAt_of hp] at hn e
    refine ⟨i, p, hi, hp, ?_, e.symm⟩
    rcases lt_tri p.lb s.data.toList with h3 | h3 | h3
    · exact h3
    · exact absurd (.inl h3) hn
    · exact absurd h3 h1
theorem split_lo {l : List Pt} {i j : Nat} {q : Pt} (hi : i < l.length) (hj : j ≤ i) : (l.take (i + 1) ++ q :: l.drop (i + 1))[j]? = l[j]? := by
  rw [List.getElem?_append_left (by rw [List.length_take]; omega), List.getElem?_take_of_lt (by omega)]
theorem split_mid {l : List Pt} {i : Nat} {q : Pt} (hi : i < l.length) : (l.take (i + 1) ++ q :: l.drop (i + 1))[i + 1]? = some q := by
  have hl : (l.take (i + 1)).length = i + 1 := by rw [List.length_take]; omega
  rw [List.getElem?_append_right (by omega), hl, Nat.sub_self]
  rfl
theorem split_hi {l : List Pt} {i j : Nat} {q : Pt} (hi : i < l.length) (hj : i + 1 < j) : (l.take (i + 1) ++ q :: l.drop (i + 1))[j]? = l[j - 1]? := by
  have hl : (l.take (i + 1)).length = i + 1 := by rw [List.length_take]; omega
  rw [List.getElem?_append_right (by omega), hl]
  obtain ⟨k, rfl⟩ : ∃ k, j = i + 1 + (k + 1) := ⟨j - i - 2, by omega⟩
  rw [Nat.add_sub_cancel_left, List.getElem?_cons_succ, List.getElem?_drop]
  congr 1
theorem back_split {l l' : List Pt} {s : ByteArray} (h : RightP l) (e : splitP l s = some l') : mergeP l' s = some l := by
  obtain ⟨i, p, hi, hp, hlt, rfl⟩ := split_hold h e
  have hil := hold_lt hi
  have hh : HoldIs (l.take (i + 1) ++ (⟨s, p.n⟩ : Pt) :: l.drop (i + 1)) s.data.toList (i + 1) := by
    refine ⟨⟨⟨s, p.n⟩, split_mid hil, lt_irr _⟩, fun j q hj hq => ?_⟩
    rw [split_hi hil hj] at hq
    exact hi.2 (j - 1) q (by omega) hq
  unfold mergeP
  rw [hold_eq hh, ptAt_of (split_mid hil), Nat.add_sub_cancel, ptAt_of (by rw [split_lo hil (Nat.le_refl _)]; exact hp), if_neg]
  · have hl : (l.take (i + 1)).length = i + 1 := by rw [List.length_take]; omega
    congr 1
    rw [List.take_left' hl, List.drop_append, List.drop_of_length_le (by omega), List.nil_append, hl, show i + 1 + 1 - (i + 1) = 1 by omega, List.drop_succ_cons, List.drop_zero, List.take_append_drop]
  · rintro (h1 | h1 | h1)
    · omega
    · exact h1 rfl
    · exact h1 rfl
/-- how a moved map stands -/
theorem move_hold {l l' : List Pt} {s : ByteArray} {n : Int} (h : RightP l) (e : moveP l s n = some l') :
    ∃ i p, HoldIs l s.data.toList i ∧ l[i]? = some p ∧ (1 ≤ n ∧ n ≤ 4) ∧ p.n ≠ n ∧ l' = l.set i ⟨p.lo, n⟩ := by
  have hi := hold_is h s.data.toList
  unfold moveP at e
  split at e
  · cases e
  · rename_i hn
    injection e with e
    obtain ⟨i, hie⟩ : ∃ i, holdN l s.data.toList = i := ⟨_, rfl⟩
    rw [hie] at hi e hn
    obtain ⟨p, hp, h1⟩ := hi.1
    rw [ptAt_of hp] at hn e
    exact ⟨i, p, hi, hp, Classical.byContradiction fun h3 => hn (.inl h3), fun h3 => hn (.inr h3), e.symm⟩
theorem lbs_hold {l l' : List Pt} {s : List UInt8} {i : Nat} (h : ∀ j : Nat, (l'[j]?).map Pt.lb = (l[j]?).map Pt.lb) (hi : HoldIs l s i) : HoldIs l' s i := by
  obtain ⟨⟨p, hp, h1⟩, h2⟩ := hi
  refine ⟨?_, fun j q hj hq => ?_⟩
  · have h3 := h i
    rw [hp] at h3
    cases e : l'[i]? with
    | none => rw [e] at h3; cases h3
    | some q =>
      rw [e] at h3
      injection h3 with h3
      exact ⟨q, rfl, by rw [h3]; exact h1⟩
  · have h3 := h j
    rw [hq] at h3
    cases e : l[j]? with
    | none => rw [e] at h3; cases h3
    | some p' =>
      rw [e] at h3
      injection h3 with h3
      rw [h3]
      exact h2 j p' hj e
theorem move_lbs {l : List Pt} {i : Nat} {p : Pt} (hp : l[i]? = some p) (n : Int) (j : Nat) : ((l.set i ⟨p.lo, n⟩)[j]?).map Pt.lb = (l[j]?).map Pt.lb := by
  have := set_lbs l i n j
  rwa [ptAt_of hp] at this
theorem back_move {l l' : List Pt} {s : ByteArray} {n : Int} (h : RightP l) (e : moveP l s n = some l') : moveP l' s (ptAt l (holdN l s.data.toList)).n = some l := by
  obtain ⟨i, p, hi, hp, hn4, hne, rfl⟩ := move_hold h e
  have hil := hold_lt hi
  have hh := lbs_hold (move_lbs hp n) hi
  have hset : (l.set i (⟨p.lo, n⟩ : Pt))[i]? = some ⟨p.lo, n⟩ := by rw [List.getElem?_set_self hil]
  rw [hold_eq hi, ptAt_of hp]
  unfold moveP
  rw [hold_eq hh, ptAt_of hset, if_neg]
  · congr 1
    rw [List.set_set]
    refine List.ext_getElem? fun j => ?_
    rw [List.getElem?_set]
    split
    · rename_i ej
      subst ej
      rw [hp]
    · rfl
  · rintro (h1 | h1)
    · exact h1 (h.each p (List.mem_of_getElem? hp)).2
    · exact hne h1.symm
end Go.Proofs.Ytefagaiaflddaaa

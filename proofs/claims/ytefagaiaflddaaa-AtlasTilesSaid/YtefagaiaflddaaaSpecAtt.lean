/-
  Layer 12 as plain mathematics: who has a text after a plan; just one part has it. Nothing of the translated program is named here.
-/
import Derived.Test.YtefagaiaflddaaaSpecAtb
namespace Go.Proofs.Ytefagaiaflddaaa

/-- the node that has a text -/
noncomputable def nodeAt (l : List Pt) (x : List UInt8) : Int := (ptAt l (holdN l x)).n
theorem nodeAt_eq {l : List Pt} {x : List UInt8} {i : Nat} {p : Pt} (h : HoldIs l x i) (hp : l[i]? = some p) : nodeAt l x = p.n := by
  unfold nodeAt
  rw [hold_eq h, ptAt_of hp]
theorem who_split {l l' : List Pt} {s : ByteArray} (h : RightP l) (e : splitP l s = some l') (x : List UInt8) : nodeAt l' x = nodeAt l x := by
  obtain ⟨i, p, hi, hp, hlt, rfl⟩ := split_hold h e
  have hil := hold_lt hi
  obtain ⟨⟨q, hq, hq1⟩, hq2⟩ := hold_is h x
  obtain ⟨j, hj⟩ : ∃ j, holdN l x = j := ⟨_, rfl⟩
  rw [hj] at hq hq2
  have hl : nodeAt l x = q.n := nodeAt_eq ⟨⟨q, hq, hq1⟩, hq2⟩ hq
  rw [hl]
  rcases Nat.lt_trichotomy j i with hji | hji | hji
  · have e1 := (split_lo (q := (⟨s, p.n⟩ : Pt)) hil (Nat.le_of_lt hji)).trans hq
    refine nodeAt_eq ⟨⟨q, e1, hq1⟩, fun k r hk hr => ?_⟩ e1
    by_cases h1 : k ≤ i
    · rw [split_lo hil h1] at hr; exact hq2 k r hk hr
    · by_cases h2 : k = i + 1
      · subst h2
        rw [split_mid hil] at hr
        injection hr with hr
        subst hr
        exact List.lt_trans (hq2 i p hji hp) hlt
      · rw [split_hi hil (by omega)] at hr
        exact hq2 (k - 1) r (by omega) hr
  · subst hji
    rw [hp] at hq
    injection hq with hq
    subst hq
    by_cases hx : x < s.data.toList
    · have e1 := (split_lo (q := (⟨s, p.n⟩ : Pt)) hil (Nat.le_refl _)).trans hp
      refine nodeAt_eq ⟨⟨p, e1, hq1⟩, fun k r hk hr => ?_⟩ e1
      by_cases h2 : k = j + 1
      · subst h2
        rw [split_mid hil] at hr
        injection hr with hr
        subst hr
        exact hx
      · rw [split_hi hil (by omega)] at hr
        exact hq2 (k - 1) r (by omega) hr
    · have e1 := split_mid (q := (⟨s, p.n⟩ : Pt)) hil
      refine nodeAt_eq (p := (⟨s, p.n⟩ : Pt)) ⟨⟨_, e1, hx⟩, fun k r hk hr => ?_⟩ e1
      rw [split_hi hil (by omega)] at hr
      exact hq2 (k - 1) r (by omega) hr
  · have e1 : (l.take (i + 1) ++ (⟨s, p.n⟩ : Pt) :: l.drop (i + 1))[j + 1]? = some q := (split_hi hil (by omega)).trans hq
    refine nodeAt_eq ⟨⟨q, e1, hq1⟩, fun k r hk hr => ?_⟩ e1
    rw [split_hi hil (by omega)] at hr
    exact hq2 (k - 1) r (by omega) hr
/-- what was merged, split again -/
theorem merge_split {l l' : List Pt} {s : ByteArray} (h : RightP l) (e : mergeP l s = some l') : splitP l' s = some l := by
  have hi := hold_is h s.data.toList
  obtain ⟨i, hie⟩ : ∃ i, holdN l s.data.toList = i := ⟨_, rfl⟩
  unfold mergeP at e
  rw [hie] at e hi
  obtain ⟨⟨p, hp, h1⟩, h2⟩ := hi
  have hil := (List.getElem?_eq_some_iff.1 hp).1
  rw [ptAt_of hp] at e
  split at e
  · cases e
  · rename_i hn
    injection e with e
    have hi0 : i ≠ 0 := fun h9 => hn (.inl h9)
    have hlb : p.lb = s.data.toList := by
      by_cases h9 : p.lb = s.data.toList
      · exact h9
      · exact absurd (.inr (.inl h9)) hn
    obtain ⟨j, rfl⟩ : ∃ j, i = j + 1 := ⟨i - 1, by omega⟩
    obtain ⟨q, hq⟩ : ∃ q, l[j]? = some q := ⟨_, List.getElem?_eq_getElem (by omega)⟩
    rw [Nat.add_sub_cancel, ptAt_of hq] at hn
    have hpq : p.n = q.n := by
      by_cases h9 : p.n = q.n
      · exact h9
      · exact absurd (.inr (.inr h9)) hn
    have hps : p = ⟨s, q.n⟩ := by
      obtain ⟨plo, pn⟩ := p
      simp only at hpq
      rw [hpq, show plo = s from bytes_ext hlb]
    have hqs : q.lb < s.data.toList := by rw [← hlb]; exact rise_at h.rise (Nat.lt_succ_self j) hq hp
    have ht : (l.take (j + 1)).length = j + 1 := by rw [List.length_take]; omega
    subst e
    have e1 : (l.take (j + 1) ++ l.drop (j + 1 + 1))[j]? = some q := by rw [List.getElem?_append_left (by omega), List.getElem?_take_of_lt (by omega)]; exact hq
    have hh : HoldIs (l.take (j + 1) ++ l.drop (j + 1 + 1)) s.data.toList j := by
      refine ⟨⟨q, e1, fun h9 => lt_asymm' h9 hqs⟩, fun k r hk hr => ?_⟩
      rw [List.getElem?_append_right (by omega), ht, List.getElem?_drop] at hr
      exact h2 _ r (by omega) hr
    unfold splitP
    rw [hold_eq hh, ptAt_of e1]
    have hsz := (h.each p (List.mem_of_getElem? hp)).1
    rw [hlb] at hsz
    rw [if_neg (by
      rintro (h9 | h9 | h9)
      · rw [h9] at hqs; exact lt_irr _ hqs
      · omega
      · rw [List.length_append, ht, List.length_drop] at h9
        have := h.most
        omega)]
    congr 1
    have h3 : (l.take (j + 1) ++ l.drop (j + 1 + 1)).take (j + 1) = l.take (j + 1) := by rw [List.take_left' ht]
    have h4 : (l.take (j + 1) ++ l.drop (j + 1 + 1)).drop (j + 1) = l.drop (j + 1 + 1) := by rw [List.drop_left' ht]
    rw [h3, h4, ← hps]
    obtain ⟨_, hpe⟩ := List.getElem?_eq_some_iff.1 hp
    rw [← hpe, List.getElem_cons_drop, List.take_append_drop]
theorem who_merge {l l' : List Pt} {s : ByteArray} (h : RightP l) (e : mergeP l s = some l') (x : List UInt8) : nodeAt l' x = nodeAt l x :=
  (who_split (merge_right h e) (merge_split h e) x).symm
theorem who_move {l l' : List Pt} {s : ByteArray} {n : Int} (h : RightP l) (e : moveP l s n = some l') (x : List UInt8) : nodeAt l' x = if holdN l x = holdN l s.data.toList then n else nodeAt l x := by
  obtain ⟨i, p, hi, hp, hn4, hne, rfl⟩ := move_hold h e
  have hil := hold_lt hi
  have hx := hold_is h x
  obtain ⟨j, hj⟩ : ∃ j, holdN l x = j := ⟨_, rfl⟩
  rw [hold_eq hi, hj]
  rw [hj] at hx
  have hx' := lbs_hold (move_lbs hp n) hx
  obtain ⟨q, hq, -⟩ := hx.1
  by_cases hji : j = i
  · subst hji
    rw [if_pos rfl]
    exact nodeAt_eq hx' (by rw [List.getElem?_set_self hil])
  · rw [if_neg hji, nodeAt_eq hx hq]
    exact nodeAt_eq hx' (by rw [List.getElem?_set_ne (Ne.symm hji)]; exact hq)
/-- just one part has a text -/
theorem has_iff {l : List Pt} (h : RightP l) {x : List UInt8} {j : Nat} {p : Pt} (hp : l[j]? = some p) : (¬ x < p.lb ∧ ∀ q, l[j + 1]? = some q → x < q.lb) ↔ j = holdN l x := by
  have hx := hold_is h x
  constructor
  · rintro ⟨h1, h2⟩
    refine hold_uniq ⟨⟨p, hp, h1⟩, fun k r hk hr => ?_⟩ hx
    have hkl := (List.getElem?_eq_some_iff.1 hr).1
    obtain ⟨q, hq⟩ : ∃ q, l[j + 1]? = some q := ⟨_, List.getElem?_eq_getElem (by omega)⟩
    by_cases hkj : k = j + 1
    · subst hkj; exact h2 r hr
    · exact List.lt_trans (h2 q hq) (rise_at h.rise (by omega) hq hr)
  · intro e
    rw [← e] at hx
    obtain ⟨⟨q, hq, h1⟩, h2⟩ := hx
    rw [hp] at hq
    injection hq with hq
    subst hq
    exact ⟨h1, fun q hq => h2 (j + 1) q (by omega) hq⟩
end Go.Proofs.Ytefagaiaflddaaa

/-
  Layer 12 as plain mathematics: maps of parts, which part has a text, what becomes of a map by a plan. Nothing of the translated program is named here.
-/
import Derived.Test.YtefagaiaflddaaaSpecPlain
namespace Go.Proofs.Ytefagaiaflddaaa

/-- a part: it begins at lo, and is node n's -/
structure Pt where
  lo : ByteArray
  n : Int
def Pt.lb (p : Pt) : List UInt8 := p.lo.data.toList
def RiseP (l : List Pt) : Prop := l.Pairwise fun a b => a.lb < b.lb
def EachP (p : Pt) : Prop := p.lb.length ≤ 100 ∧ 1 ≤ p.n ∧ p.n ≤ 4
/-- a right map's parts -/
structure RightP (l : List Pt) : Prop where
  one : 1 ≤ l.length
  most : l.length ≤ 8
  head : ∀ p, l[0]? = some p → p.lb = []
  rise : RiseP l
  each : ∀ p ∈ l, EachP p
theorem take_snocP {l : List Pt} {k : Nat} {p : Pt} (hp : l[k]? = some p) : l.take (k + 1) = l.take k ++ [p] := by
  rw [List.take_add_one, hp]
  rfl
theorem rise_snoc {l : List Pt} {c : Pt} : RiseP (l ++ [c]) ↔ RiseP l ∧ ∀ b ∈ l, b.lb < c.lb := by
  unfold RiseP
  rw [List.pairwise_append]
  simp
theorem rise_succ {l : List Pt} {k : Nat} {p : Pt} (hp : l[k]? = some p) : RiseP (l.take (k + 1)) ↔ RiseP (l.take k) ∧ ∀ q, 0 < k → l[k - 1]? = some q → q.lb < p.lb := by
  rw [take_snocP hp, rise_snoc]
  constructor
  · rintro ⟨h1, h2⟩
    refine ⟨h1, fun q hk hq => h2 q (List.mem_of_getElem? (i := k - 1) ?_)⟩
    rw [List.getElem?_take_of_lt (by omega)]
    exact hq
  · rintro ⟨h1, h2⟩
    refine ⟨h1, fun b hb => ?_⟩
    rcases Nat.eq_zero_or_pos k with rfl | hk
    · simp at hb
    · have hkl := (List.getElem?_eq_some_iff.1 hp).1
      obtain ⟨q, hq⟩ : ∃ q, l[k - 1]? = some q := ⟨_, List.getElem?_eq_getElem (by omega)⟩
      have e : l.take k = l.take (k - 1) ++ [q] := by
        have := take_snocP hq
        rwa [Nat.sub_add_cancel hk] at this
      rw [e] at h1 hb
      rcases List.mem_append.1 hb with hb | hb
      · exact List.lt_trans ((rise_snoc.1 h1).2 b hb) (h2 q hk hq)
      · simp at hb; subst hb; exact h2 b hk hq
theorem rise_at {l : List Pt} (h : RiseP l) {i j : Nat} {p q : Pt} (hij : i < j) (hp : l[i]? = some p) (hq : l[j]? = some q) : p.lb < q.lb := by
  obtain ⟨h1, rfl⟩ := List.getElem?_eq_some_iff.1 hp
  obtain ⟨h2, rfl⟩ := List.getElem?_eq_some_iff.1 hq
  exact List.pairwise_iff_getElem.1 h i j h1 h2 hij
/-- the greatest epoch -/
def lastEp : Int := 1099511627776
open Classical in
/-- what is wrong with a map -/
noncomputable def checkT (ep : Int) (l : List Pt) : Int := if ep < 1 ∨ 1099511627776 < ep then 1 else if RightP l then 0 else 14
theorem check_zero {ep : Int} {l : List Pt} : checkT ep l = 0 ↔ 1 ≤ ep ∧ ep ≤ 1099511627776 ∧ RightP l := by
  unfold checkT
  split
  · rename_i h
    constructor
    · intro h2; cases h2
    · rintro ⟨h1, h2, -⟩; omega
  · split
    · rename_i h1 h2
      exact ⟨fun _ => ⟨by omega, by omega, h2⟩, fun _ => rfl⟩
    · rename_i h1 h2
      exact ⟨fun h => (by cases h), fun h => absurd h.2.2 h2⟩
theorem check_cases (ep : Int) (l : List Pt) : ((ep < 1 ∨ 1099511627776 < ep) ∧ checkT ep l = 1) ∨ (¬ (ep < 1 ∨ 1099511627776 < ep) ∧ ((RightP l ∧ checkT ep l = 0) ∨ (¬ RightP l ∧ checkT ep l = 14))) := by
  unfold checkT
  by_cases h : ep < 1 ∨ 1099511627776 < ep
  · exact .inl ⟨h, if_pos h⟩
  · rw [if_neg h]
    by_cases h2 : RightP l
    · exact .inr ⟨h, .inl ⟨h2, if_pos h2⟩⟩
    · exact .inr ⟨h, .inr ⟨h2, if_neg h2⟩⟩
theorem check_range (ep : Int) (l : List Pt) : 0 ≤ checkT ep l ∧ checkT ep l ≤ 14 := by
  rcases check_cases ep l with ⟨-, h⟩ | ⟨-, ⟨-, h⟩ | ⟨-, h⟩⟩ <;> rw [h] <;> omega
/-- part i has the text s -/
def HoldIs (l : List Pt) (s : List UInt8) (i : Nat) : Prop := (∃ p, l[i]? = some p ∧ ¬ s < p.lb) ∧ ∀ j q, i < j → l[j]? = some q → s < q.lb
theorem hold_lt {l : List Pt} {s : List UInt8} {i : Nat} (h : HoldIs l s i) : i < l.length := by
  obtain ⟨⟨p, hp, -⟩, -⟩ := h
  exact (List.getElem?_eq_some_iff.1 hp).1
theorem hold_uniq {l : List Pt} {s : List UInt8} {i j : Nat} (h : HoldIs l s i) (h' : HoldIs l s j) : i = j := by
  obtain ⟨⟨p, hp, h1⟩, h2⟩ := h
  obtain ⟨⟨q, hq, h3⟩, h4⟩ := h'
  rcases Nat.lt_trichotomy i j with h | h | h
  · exact absurd (h2 j q h hq) h3
  · exact h
  · exact absurd (h4 i p h hp) h1
theorem not_lt_nil (s : List UInt8) : ¬ s < [] := List.not_lt_nil s
theorem hold_down {l : List Pt} (s : List UInt8) (h0 : ∀ p, l[0]? = some p → p.lb = []) (hl : 0 < l.length) : ∀ n, n < l.length → (∀ j q, n < j → l[j]? = some q → s < q.lb) → ∃ i, HoldIs l s i
  | 0, _, h2 => by
    obtain ⟨p, hp⟩ : ∃ p, l[0]? = some p := ⟨_, List.getElem?_eq_getElem hl⟩
    exact ⟨0, ⟨p, hp, by rw [h0 p hp]; exact not_lt_nil s⟩, h2⟩
  | n + 1, h1, h2 => by
    obtain ⟨p, hp⟩ : ∃ p, l[n + 1]? = some p := ⟨_, List.getElem?_eq_getElem h1⟩
    by_cases h3 : s < p.lb
    · refine hold_down s h0 hl n (by omega) fun j q hj hq => ?_
      by_cases h4 : j = n + 1
      · subst h4
        rw [hp] at hq
        injection hq with hq
        subst hq
        exact h3
      · exact h2 j q (by omega) hq
    · exact ⟨n + 1, ⟨p, hp, h3⟩, h2⟩
theorem hold_ex {l : List Pt} (h : RightP l) (s : List UInt8) : ∃ i, HoldIs l s i :=
  hold_down s h.head h.one (l.length - 1) (by have := h.one; omega) fun j q hj hq => by
    have := (List.getElem?_eq_some_iff.1 hq).1
    omega
open Classical in
noncomputable def holdN (l : List Pt) (s : List UInt8) : Nat := if h : ∃ i, HoldIs l s i then h.choose else 0
theorem hold_eq {l : List Pt} {s : List UInt8} {i : Nat} (h : HoldIs l s i) : holdN l s = i := by
  unfold holdN
  have hx : ∃ i, HoldIs l s i := ⟨i, h⟩
  rw [dif_pos hx]
  exact hold_uniq hx.choose_spec h
theorem hold_is {l : List Pt} (h : RightP l) (s : List UInt8) : HoldIs l s (holdN l s) := by
  obtain ⟨i, hi⟩ := hold_ex h s
  rw [hold_eq hi]
  exact hi
open Classical in
/-- what Find answers -/
noncomputable def findT (ep : Int) (l : List Pt) (s : List UInt8) : Nat × Bool := if checkT ep l = 0 then (holdN l s, true) else (0, false)
def ptAt (l : List Pt) (i : Nat) : Pt := (l[i]?).getD ⟨⟨#[]⟩, 0⟩
theorem ptAt_of {l : List Pt} {i : Nat} {p : Pt} (h : l[i]? = some p) : ptAt l i = p := by unfold ptAt; rw [h]; rfl
/-- a text begins a part just if the part that has it begins there -/
theorem begins_hold {l : List Pt} (h : RightP l) {s : List UInt8} {i k : Nat} {p : Pt} (hi : HoldIs l s i) (hk : l[k]? = some p) (hp : p.lb = s) : k = i := by
  refine hold_uniq ⟨⟨p, hk, by rw [hp]; exact lt_irr _⟩, fun j q hj hq => ?_⟩ hi
  rw [← hp]
  exact rise_at h.rise hj hk hq
abbrev MapR := Int × List Pt × Int
/-- a plan: what becomes of the parts, or that it may not be -/
noncomputable def goT (ep : Int) (l : List Pt) (r : Option (List Pt)) : MapR :=
  if checkT ep l ≠ 0 then (0, [], checkT ep l) else match r with
    | none => (0, [], 14)
    | some l' => if ep = 1099511627776 then (0, [], 4) else (ep + 1, l', 0)
open Classical in
noncomputable def splitP (l : List Pt) (s : ByteArray) : Option (List Pt) :=
  if (ptAt l (holdN l s.data.toList)).lb = s.data.toList ∨ 100 < s.data.toList.length ∨ l.length = 8 then none
  else some (l.take (holdN l s.data.toList + 1) ++ ⟨s, (ptAt l (holdN l s.data.toList)).n⟩ :: l.drop (holdN l s.data.toList + 1))
open Classical in
noncomputable def mergeP (l : List Pt) (s : ByteArray) : Option (List Pt) :=
  if holdN l s.data.toList = 0 ∨ (ptAt l (holdN l s.data.toList)).lb ≠ s.data.toList ∨ (ptAt l (holdN l s.data.toList)).n ≠ (ptAt l (holdN l s.data.toList - 1)).n then none
  else some (l.take (holdN l s.data.toList) ++ l.drop (holdN l s.data.toList + 1))
open Classical in
noncomputable def moveP (l : List Pt) (s : ByteArray) (n : Int) : Option (List Pt) :=
  if ¬ (1 ≤ n ∧ n ≤ 4) ∨ (ptAt l (holdN l s.data.toList)).n = n then none
  else some (l.set (holdN l s.data.toList) ⟨(ptAt l (holdN l s.data.toList)).lo, n⟩)
/-- a plan keeps a map right -/
theorem split_right {l l' : List Pt} {s : ByteArray} (h : RightP l) (e : splitP l s = some l') : RightP l' := by
  unfold splitP at e
  split at e
  · cases e
  · rename_i hn
    injection e with e
    have hi := hold_is h s.data.toList
    obtain ⟨i, hie⟩ : ∃ i, holdN l s.data.toList = i := ⟨_, rfl⟩
    rw [hie] at hi e hn
    obtain ⟨⟨p, hp, h1⟩, h2⟩ := hi
    rw [ptAt_of hp] at hn e
    have hil := (List.getElem?_eq_some_iff.1 hp).1
    have hne : p.lb < s.data.toList := by
      rcases lt_tri p.lb s.data.toList with h3 | h3 | h3
      · exact h3
      · exact absurd (.inl h3) hn
      · exact absurd h3 h1
    have hs : s.data.toList.length ≤ 100 := by
      by_cases h3 : 100 < s.data.toList.length
      · exact absurd (.inr (.inl h3)) hn
      · omega
    have hl8 : l.length ≠ 8 := fun h3 => hn (.inr (.inr h3))
    subst e
    have hlen : (l.take (i + 1) ++ (⟨s, p.n⟩ : Pt) :: l.drop (i + 1)).length = l.length + 1 := by
      rw [List.length_append, List.length_cons, List.length_take, List.length_drop]; omega
    have hep := h.each p (List.mem_of_getElem? hp)
    refine ⟨by omega, by have := h.most; omega, fun q hq => ?_, ?_, fun q hq => ?_⟩
    · rw [List.getElem?_append_left (by rw [List.length_take]; omega), List.getElem?_take_of_lt (by omega)] at hq
      exact h.head q hq
    · unfold RiseP
      have hr : RiseP (l.take (i + 1) ++ l.drop (i + 1)) := by rw [List.take_append_drop]; exact h.rise
      obtain ⟨r1, r2, r3⟩ := List.pairwise_append.1 hr
      refine List.pairwise_append.2 ⟨r1, List.pairwise_cons.2 ⟨fun q hq => ?_, r2⟩, fun a ha b hb => ?_⟩
      · obtain ⟨j, hj⟩ := List.mem_iff_getElem?.1 hq
        rw [List.getElem?_drop] at hj
        exact h2 _ q (by omega) hj
      · rcases List.mem_cons.1 hb with rfl | hb
        · rw [take_snocP hp] at ha
          show a.lb < s.data.toList
          rcases List.mem_append.1 ha with ha | ha
          · rw [take_snocP hp] at r1
            exact List.lt_trans ((rise_snoc.1 r1).2 a ha) hne
          · simp at ha; subst ha; exact hne
        · exact r3 a ha b hb
    · rcases List.mem_append.1 hq with hq | hq
      · exact h.each q (List.mem_of_mem_take hq)
      · rcases List.mem_cons.1 hq with rfl | hq
        · exact ⟨hs, hep.2⟩
        · exact h.each q (List.mem_of_mem_drop hq)
theorem merge_right {l l' : List Pt} {s : ByteArray} (h : RightP l) (e : mergeP l s = some l') : RightP l' := by
  unfold mergeP at e
  split at e
  · cases e
  · rename_i hn
    injection e with e
    have hi := hold_lt (hold_is h s.data.toList)
    obtain ⟨i, hie⟩ : ∃ i, holdN l s.data.toList = i := ⟨_, rfl⟩
    rw [hie] at hi e hn
    have hi0 : i ≠ 0 := fun h3 => hn (.inl h3)
    subst e
    have hlen : (l.take i ++ l.drop (i + 1)).length + 1 = l.length := by
      rw [List.length_append, List.length_take, List.length_drop]; omega
    have hsub : (l.take i ++ l.drop (i + 1)).Sublist l := by
      conv => rhs; rw [← List.take_append_drop i l]
      refine List.Sublist.append (List.Sublist.refl _) ?_
      rw [← List.drop_drop]
      exact List.drop_sublist 1 _
    refine ⟨by omega, by have := h.most; omega, fun q hq => ?_, h.rise.sublist hsub, fun q hq => h.each q (hsub.subset hq)⟩
    rw [List.getElem?_append_left (by rw [List.length_take]; omega), List.getElem?_take_of_lt (by omega)] at hq
    exact h.head q hq
theorem set_lbs (l : List Pt) (i : Nat) (n : Int) (j : Nat) : ((l.set i ⟨(ptAt l i).lo, n⟩)[j]?).map Pt.lb = (l[j]?).map Pt.lb := by
  rw [List.getElem?_set]
  split
  · rename_i e
    subst e
    split
    · rename_i hlt
      rw [List.getElem?_eq_getElem hlt, ptAt_of (List.getElem?_eq_getElem hlt)]
      rfl
    · rename_i hlt
      rw [List.getElem?_eq_none (by omega)]
  · rfl
theorem move_right {l l' : List Pt} {s : ByteArray} {n : Int} (h : RightP l) (e : moveP l s n = some l') : RightP l' := by
  unfold moveP at e
  split at e
  · cases e
  · rename_i hn
    injection e with e
    have hn4 : 1 ≤ n ∧ n ≤ 4 := Classical.byContradiction fun h3 => hn (.inl h3)
    have hi := hold_lt (hold_is h s.data.toList)
    obtain ⟨i, hie⟩ : ∃ i, holdN l s.data.toList = i := ⟨_, rfl⟩
    rw [hie] at hi e hn
    have hm := set_lbs l i n
    have hp : l[i]? = some (ptAt l i) := by rw [ptAt_of (List.getElem?_eq_getElem hi)]; exact List.getElem?_eq_getElem hi
    rw [e] at hm
    have hlen : l'.length = l.length := by rw [← e, List.length_set]
    refine ⟨by rw [hlen]; exact h.one, by rw [hlen]; exact h.most, fun q hq => ?_, ?_, fun q hq => ?_⟩
    · have h1 := hm 0
      rw [hq] at h1
      cases e0 : l[0]? with
      | none => rw [e0] at h1; cases h1
      | some q0 =>
        rw [e0] at h1
        injection h1 with h1
        rw [h1]
        exact h.head q0 e0
    · refine List.pairwise_iff_getElem.2 fun a b ha hb hab => ?_
      have h1 := hm a
      have h2 := hm b
      rw [List.getElem?_eq_getElem ha, List.getElem?_eq_getElem (by omega)] at h1
      rw [List.getElem?_eq_getElem hb, List.getElem?_eq_getElem (by omega)] at h2
      injection h1 with h1
      injection h2 with h2
      rw [h1, h2]
      exact List.pairwise_iff_getElem.1 h.rise a b (by omega) (by omega) hab
    · rw [← e] at hq
      rcases List.mem_or_eq_of_mem_set hq with hq | rfl
      · exact h.each q hq
      · exact ⟨(h.each _ (List.mem_of_getElem? hp)).1, hn4⟩
theorem go_right {ep : Int} {l : List Pt} {r : Option (List Pt)} (hr : RightP l → ∀ l', r = some l' → RightP l') {ep' : Int} {l' : List Pt} (e : goT ep l r = (ep', l', 0)) :
    1 ≤ ep ∧ ep < 1099511627776 ∧ RightP l ∧ r = some l' ∧ ep' = ep + 1 ∧ RightP l' := by
  unfold goT at e
  split at e
  · rename_i hc
    injection e with _ e
    injection e with _ e
    exact absurd e hc
  · rename_i hc
    have hc0 : checkT ep l = 0 := Classical.byContradiction hc
    obtain ⟨h1, h2, h3⟩ := check_zero.1 hc0
    cases r with
    | none =>
      injection e with _ e
      injection e with _ e
      cases e
    | some l2 =>
      simp only at e
      split at e
      · injection e with _ e
        injection e with _ e
        cases e
      · rename_i hne
        injection e with e1 e
        injection e with e2 _
        subst e2
        exact ⟨h1, by omega, h3, rfl, e1.symm, hr h3 l2 rfl⟩
end Go.Proofs.Ytefagaiaflddaaa

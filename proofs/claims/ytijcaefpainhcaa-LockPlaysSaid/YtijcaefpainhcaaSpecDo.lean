/- Layer 16 in plain words: an act on both tables, and how they stand to each other. No condition. -/
import Derived.Test.YtijcaefpainhcaaSpecLock
namespace Go.Proofs.Ytijcaefpainhcaa

/-- an act: Kind 1 Take, 2 Renew, 3 Free, 4 Tick, 5 Lose -/
structure LA where
  kind : Int
  id : Int
  r : Rg
noncomputable def stepT (x : Int) (a : LA) (E : List TL) : List TL :=
  if a.kind = 1 then takeT x a.id a.r E else if a.kind = 2 then renewT x a.id E else if a.kind = 3 then delL a.id E else if a.kind = 4 then tickT E else if a.kind = 5 then loseT a.r E else E
def keepT (lease now : Int) (p : TL) : Bool := decide (now - p.left < lease)
noncomputable def stepR (lease now : Int) (a : LA) (E : List TL) : List TL :=
  if a.kind = 1 then takeT now a.id a.r E else if a.kind = 2 then renewT now a.id E else if a.kind = 3 then delL a.id E else if a.kind = 4 then E.filter (keepT lease (now + 1)) else if a.kind = 5 then loseT a.r E else E
def nowR (now : Int) (a : LA) : Int := if a.kind = 4 then now + 1 else now
/-- what an act tells: do both tables tell the same? -/
def tellT (a : LA) (E R : List TL) : Bool := if a.kind = 2 ∨ a.kind = 3 then decide ((getL a.id E).isSome = (getL a.id R).isSome) else true
/-- a lock of the document's table, told by what is left of it -/
def conv (lease now : Int) (p : TL) : TL := ⟨p.n, p.L, lease - (now - p.left)⟩
structure Rel (lease now : Int) (E R : List TL) : Prop where
  eq : E = R.map (conv lease now)
  left : ∀ p ∈ R, 0 ≤ p.left ∧ p.left ≤ now
section
variable {lease now : Int} {E R : List TL} {N : Nat}
theorem getL_map {c : TL → TL} (hc : ∀ p, (c p).n = p.n) (k : Int) : ∀ (R : List TL), getL k (R.map c) = (getL k R).map c
  | [] => rfl
  | p :: l => by
    have ih := getL_map hc k l
    unfold getL at ih ⊢
    simp only [List.map_cons, List.find?_cons, hc]
    split
    · rfl
    · exact ih
theorem delL_map {c : TL → TL} (hc : ∀ p, (c p).n = p.n) (k : Int) (R : List TL) : delL k (R.map c) = (delL k R).map c := by
  unfold delL
  rw [List.filter_map]
  congr 1
  refine List.filter_congr fun p _ => ?_
  simp [hc]
theorem updL_map {c : TL → TL} (hc : ∀ p, (c p).n = p.n) {e e' : TL} (he : c e' = e) (R : List TL) : updL e (R.map c) = (updL e' R).map c := by
  unfold updL
  rw [List.map_map, List.map_map]
  refine List.map_congr_left fun p _ => ?_
  have hn : e.n = e'.n := by rw [← he, hc]
  simp only [Function.comp, hc, hn]
  split
  · exact he.symm
  · rfl
theorem insL_map {c : TL → TL} (hc : ∀ p, (c p).n = p.n) {e e' : TL} (he : c e' = e) : ∀ (R : List TL), insL e (R.map c) = (insL e' R).map c
  | [] => by simp [insL, he]
  | p :: l => by
    have ih := insL_map hc he l
    have hn : e.n = e'.n := by rw [← he, hc]
    simp only [List.map_cons, insL, hc, hn, ih]
    split
    · simp [he]
    · simp
theorem rangesT_map {c : TL → TL} (hc : ∀ p, (c p).n = p.n) (hL : ∀ p, (c p).L = p.L) (k : Int) (R : List TL) : rangesT k (R.map c) = rangesT k R := by
  unfold rangesT
  rw [getL_map hc]
  cases getL k R with
  | none => rfl
  | some p => exact hL p
theorem updL_updL {e e' : TL} (h : e'.n = e.n) (R : List TL) : updL e (updL e' R) = updL e R := by
  unfold updL
  rw [List.map_map]
  refine List.map_congr_left fun p _ => ?_
  simp only [Function.comp]
  by_cases hp : p.n = e.n
  · simp [hp, h]
  · simp [hp, h]
theorem updL_insL {e x : TL} (h : x.n = e.n) : ∀ {R : List TL}, (∀ p ∈ R, p.n ≠ e.n) → updL e (insL x R) = insL e R
  | [], _ => by simp [insL, updL, h]
  | p :: l, hp => by
    have ih := updL_insL h (R := l) (fun q hq => hp q (by simp [hq]))
    have hpn := hp p (by simp)
    have hl : ∀ (l : List TL), (∀ q ∈ l, q.n ≠ e.n) → updL e l = l := by
      intro l hl
      unfold updL
      conv => rhs; rw [← List.map_id l]
      refine List.map_congr_left fun q hq => ?_
      simp [hl q hq]
    simp only [insL, h]
    split
    · have := hl (p :: l) hp
      unfold updL at this ⊢
      rw [List.map_cons, this]
      simp [h]
    · unfold updL at ih ⊢
      rw [List.map_cons, ih]
      simp [hpn]
theorem takeT_map {c : TL → TL} (hc : ∀ p, (c p).n = p.n) (hL : ∀ p, (c p).L = p.L) {x x' : Int} (hx : ∀ n L, c ⟨n, L, x'⟩ = ⟨n, L, x⟩) (k : Int) (r : Rg) (R : List TL) : takeT x k r (R.map c) = (takeT x' k r R).map c := by
  unfold takeT
  split
  · rfl
  · rw [rangesT_map hc hL]
    generalize leastT (rangesT k R ++ [r]) = m
    unfold hasL
    rw [getL_map hc]
    cases hg : getL k R with
    | some p => exact updL_map hc (hx k m) R
    | none =>
      simp only [Option.map_none]
      rw [updL_insL (e := ⟨k, m, x⟩) (x := ⟨k, [], 0⟩) rfl (fun p hp => by
        obtain ⟨q, hq, rfl⟩ := List.mem_map.1 hp
        rw [hc]
        exact getL_none hg q hq), updL_insL (e := ⟨k, m, x'⟩) (x := ⟨k, [], 0⟩) rfl (getL_none hg)]
      exact insL_map hc (hx k m) R
theorem Rel.start (lease : Int) : Rel lease 0 [] [] := ⟨rfl, by simp⟩
theorem Rel.isSome (h : Rel lease now E R) (k : Int) : (getL k E).isSome = (getL k R).isSome := by
  rw [h.eq, getL_map (c := conv lease now) (fun _ => rfl)]
  cases getL k R <;> rfl
theorem Rel.tell (h : Rel lease now E R) (a : LA) : tellT a E R = true := by
  unfold tellT
  split
  · exact decide_eq_true (h.isSome _)
  · rfl
theorem Rel.rise (h : Rel lease now E R) (hE : RiseL E) : RiseL R := by
  unfold RiseL at hE ⊢
  rw [h.eq, List.pairwise_map] at hE
  exact hE
theorem Rel.len (h : Rel lease now E R) : R.length = E.length := by rw [h.eq, List.length_map]
theorem Rel.rows (h : Rel lease now E R) (hE : TInv lease N E) : ∀ p ∈ R, p.L.length ≤ N := fun p hp => (hE.one (conv lease now p) (h.eq ▸ List.mem_map.2 ⟨p, hp, rfl⟩)).len
theorem Rel.ranges (h : Rel lease now E R) (k : Int) : rangesT k E = rangesT k R := by
  rw [h.eq]
  exact rangesT_map (c := conv lease now) (fun _ => rfl) (fun _ => rfl) k R
theorem Rel.nums (h : Rel lease now E R) : E.map (·.n) = R.map (·.n) := by
  rw [h.eq, List.map_map]
  rfl
theorem mem_takeT {x k : Int} {r : Rg} {R : List TL} {p : TL} (h : p ∈ takeT x k r R) : p.left = x ∨ p ∈ R := by
  unfold takeT at h
  split at h
  · exact .inr h
  · rcases mem_updL2 h with rfl | ⟨h, hne⟩
    · exact .inl rfl
    · rcases mem_hasL h with h1 | h1
      · exact absurd h1 hne
      · exact .inr h1
theorem mem_renewT {x k : Int} {R : List TL} {p : TL} (h : p ∈ renewT x k R) : p.left = x ∨ p ∈ R := by
  unfold renewT at h
  cases hg : getL k R with
  | none => rw [hg] at h; exact .inr h
  | some q =>
    rw [hg] at h
    rcases mem_updL h with rfl | h
    · exact .inl rfl
    · exact .inr h
theorem Rel.step (h : Rel lease now E R) (hE : TInv lease N E) (hn : 0 ≤ now) (a : LA) : Rel lease (nowR now a) (stepT lease a E) (stepR lease now a R) := by
  have hcn : ∀ p, (conv lease now p).n = p.n := fun _ => rfl
  have hcL : ∀ p, (conv lease now p).L = p.L := fun _ => rfl
  have hcx : ∀ n L, conv lease now ⟨n, L, now⟩ = ⟨n, L, lease⟩ := fun n L => by unfold conv; simp
  unfold stepT stepR nowR
  by_cases h1 : a.kind = 1
  · rw [if_pos h1, if_pos h1, if_neg (by omega)]
    refine ⟨by rw [h.eq]; exact takeT_map hcn hcL hcx _ _ _, fun p hp => ?_⟩
    rcases mem_takeT hp with e | hp
    · omega
    · exact h.left p hp
  rw [if_neg h1, if_neg h1]
  by_cases h2 : a.kind = 2
  · rw [if_pos h2, if_pos h2, if_neg (by omega)]
    refine ⟨?_, fun p hp => ?_⟩
    · rw [h.eq]
      unfold renewT
      rw [getL_map hcn]
      cases hg : getL a.id R with
      | none => rfl
      | some q => exact updL_map hcn (hcx _ _) R
    · rcases mem_renewT hp with e | hp
      · omega
      · exact h.left p hp
  rw [if_neg h2, if_neg h2]
  by_cases h3 : a.kind = 3
  · rw [if_pos h3, if_pos h3, if_neg (by omega)]
    exact ⟨by rw [h.eq]; exact delL_map hcn _ _, fun p hp => h.left p (List.mem_filter.1 hp).1⟩
  rw [if_neg h3, if_neg h3]
  by_cases h4 : a.kind = 4
  · rw [if_pos h4, if_pos h4, if_pos h4]
    refine ⟨?_, fun p hp => by have := h.left p (List.mem_filter.1 hp).1; omega⟩
    rw [h.eq]
    unfold tickT
    rw [List.filterMap_map, ← List.filterMap_eq_filter, List.map_filterMap]
    refine fm_congr fun p hp => ?_
    have ho := (hE.one (conv lease now p) (h.eq ▸ List.mem_map.2 ⟨p, hp, rfl⟩)).left
    unfold conv at ho
    simp only at ho
    simp only [Function.comp, tick1, conv, Option.guard, keepT]
    by_cases hz : lease - (now - p.left) - 1 = 0
    · have : ¬ now + 1 - p.left < lease := by omega
      simp [hz, this]
    · have h5 : now + 1 - p.left < lease := by omega
      have h6 : lease - (now - p.left) - 1 = lease - (now + 1 - p.left) := by omega
      simp only [h5, decide_true, if_true, Option.map_some]
      refine (if_neg hz).trans ?_
      unfold conv
      rw [h6]
  rw [if_neg h4, if_neg h4, if_neg h4]
  by_cases h5 : a.kind = 5
  · rw [if_pos h5, if_pos h5]
    refine ⟨?_, fun p hp => ?_⟩
    · rw [h.eq]
      unfold loseT
      rw [List.filterMap_map, List.map_filterMap]
      refine fm_congr fun p hp => ?_
      simp only [Function.comp, lose1, conv]
      by_cases hm : minusT p.L a.r = []
      · simp [hm]
      · simp [hm, conv]
    · obtain ⟨q, hq, hp⟩ := List.mem_filterMap.1 hp
      unfold lose1 at hp
      split at hp
      · cases hp
      · cases hp; exact h.left q hq
  rw [if_neg h5, if_neg h5]
  exact h
end
end Go.Proofs.Ytijcaefpainhcaa

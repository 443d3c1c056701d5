/-
  Merging by a heap of rests, as plain mathematics: what is left, what has been taken, and what is found in both.
-/
import Derived.Test.YteioopcacpihpaaHpA
namespace Go.Proofs.Yteioopcacpihpaa

/-- the rests of n runs: of run r the changes R r are left -/
structure HeapOf (L : List Rst) (R : Nat → List Chg) (n : Nat) : Prop where
  mem : ∀ x ∈ L, x.r < n ∧ x.cs = R x.r ∧ x.cs ≠ []
  all : ∀ r, r < n → R r ≠ [] → ∃ x ∈ L, x.r = r
  nod : (L.map (·.r)).Nodup
def mlookR (k : List UInt8) (R : Nat → List Chg) : Nat → Option Chg
  | 0 => none
  | n + 1 => (mlookR k R n).or (look k (R n))
theorem mlookR_congr {k : List UInt8} {R R' : Nat → List Chg} : ∀ {n : Nat}, (∀ r, r < n → look k (R r) = look k (R' r)) → mlookR k R n = mlookR k R' n
  | 0, _ => rfl
  | n + 1, h => by
    unfold mlookR
    rw [mlookR_congr (n := n) fun r hr => h r (by omega), h n (by omega)]
theorem mlookR_none {k : List UInt8} {R : Nat → List Chg} : ∀ {n : Nat}, (∀ r, r < n → look k (R r) = none) → mlookR k R n = none
  | 0, _ => rfl
  | n + 1, h => by
    unfold mlookR
    rw [mlookR_none (n := n) fun r hr => h r (by omega), h n (by omega)]
    rfl
theorem mlookR_first {k : List UInt8} {R : Nat → List Chg} {r0 : Nat} {c : Chg} (hn : ∀ r, r < r0 → look k (R r) = none) (hc : look k (R r0) = some c) : ∀ {n : Nat}, r0 < n → mlookR k R n = some c
  | 0, h => by omega
  | n + 1, h => by
    unfold mlookR
    by_cases e : n = r0
    · subst e
      rw [mlookR_none hn, hc]
      rfl
    · rw [mlookR_first hn hc (n := n) (by omega)]
      rfl
theorem mlook_snoc (k : List UInt8) (rs : List (List Chg)) (r : List Chg) : mlook k (rs ++ [r]) = (mlook k rs).or (look k r) := by
  induction rs with
  | nil => rw [List.nil_append, mlook_cons]; simp [mlook]
  | cons x rs ih => rw [List.cons_append, mlook_cons, mlook_cons, ih, Option.or_assoc]
theorem mlook_eq (k : List UInt8) (rs : List (List Chg)) : ∀ n, n ≤ rs.length → mlook k (rs.take n) = mlookR k (fun r => rs[r]?.getD []) n
  | 0, _ => rfl
  | n + 1, h => by
    have hn : rs[n]? = some rs[n] := List.getElem?_eq_getElem (by omega)
    rw [List.take_add_one, hn]
    show mlook k (rs.take n ++ [rs[n]]) = _
    rw [mlook_snoc, mlook_eq k rs n (by omega), mlookR, hn]
    rfl
/-- what stands while runs are merged: M is taken, R is left -/
structure Merging (rs : List (List Chg)) (M : List Chg) (R : Nat → List Chg) : Prop where
  run : Run M
  runs : ∀ r, r < rs.length → Run (R r)
  low : ∀ a ∈ M, ∀ r, r < rs.length → ∀ c ∈ R r, ¬ c.kb < a.kb
  found : ∀ k, mlook k rs = (look k M).or (mlookR k R rs.length)
theorem Merging.start {rs : List (List Chg)} (h : ∀ r ∈ rs, Run r) : Merging rs [] (fun r => rs[r]?.getD []) := by
  refine ⟨Run.nil, fun r hr => ?_, by simp, fun k => ?_⟩
  · rw [List.getElem?_eq_getElem hr]
    exact h _ (List.getElem_mem hr)
  · have := mlook_eq k rs rs.length (Nat.le_refl _)
    rw [List.take_length] at this
    rw [this]
    rfl
theorem Merging.stop {rs : List (List Chg)} {M : List Chg} {R : Nat → List Chg} (h : Merging rs M R) (hr : ∀ r ∈ rs, Run r) (he : HeapOf [] R rs.length) : M = mergeL rs := by
  refine srt_ext h.run.2 (srt_merge rs) fun k => ?_
  rw [look_merge k hr, h.found k, mlookR_none, Option.or_none]
  intro r hlt
  by_cases e : R r = []
  · rw [e]
    rfl
  · obtain ⟨x, hx, _⟩ := he.all r hlt e
    simp at hx
theorem last_key {M : List Chg} (h : Srt M) {c : Chg} (hl : ∀ a ∈ M, ¬ c.kb < a.kb) {b : Chg} (hb : M.getLast? = some b) (hne : b.kb ≠ c.kb) : ∀ a ∈ M, a.kb < c.kb := by
  obtain ⟨M0, e⟩ : ∃ M0, M = M0 ++ [b] := by
    rw [List.getLast?_eq_some_iff] at hb
    exact hb
  subst e
  refine (srt_last h).2 ?_
  rcases lt_tri b.kb c.kb with h1 | h1 | h1
  · exact h1
  · exact absurd h1 hne
  · exact absurd h1 (hl b (by simp))
def restR (R : Nat → List Chg) (r0 : Nat) (cs : List Chg) : Nat → List Chg := fun r => if r = r0 then cs else R r
section
variable {rs : List (List Chg)} {M : List Chg} {R : Nat → List Chg} {L L' : List Rst} {x : Rst} {c : Chg} {cs : List Chg}
/-- the change that is taken is the least one, and the first of its key -/
theorem Merging.least (h : Merging rs M R) (ho : HeapOf L R rs.length) (hp : L.Perm (x :: L')) (hm : ∀ y ∈ L', ¬ ltR y x) (hx : x.cs = c :: cs) :
    x.r < rs.length ∧ R x.r = c :: cs ∧ (∀ r, r < rs.length → ∀ d ∈ R r, ¬ d.kb < c.kb) ∧ ∀ r, r < x.r → ∀ d ∈ R r, d.kb ≠ c.kb := by
  have hxL : x ∈ L := hp.mem_iff.2 (by simp)
  obtain ⟨h1, h2, h3⟩ := ho.mem x hxL
  have hxk : x.hk = c.kb := by unfold Rst.hk; rw [hx]; rfl
  have key : ∀ r, r < rs.length → ∀ d ∈ R r, r ≠ x.r → ∃ y ∈ L', y.r = r ∧ ¬ d.kb < y.hk := by
    intro r hr d hd hne
    have hne2 : R r ≠ [] := fun e => by rw [e] at hd; simp at hd
    obtain ⟨y, hy, e⟩ := ho.all r hr hne2
    rcases List.mem_cons.1 (hp.mem_iff.1 hy) with e2 | hy'
    · subst e2; exact absurd e.symm hne
    · refine ⟨y, hy', e, ?_⟩
      obtain ⟨-, g2, g3⟩ := ho.mem y hy
      have hrun := (h.runs r hr).2
      rw [e] at g2
      rw [← g2] at hrun hd
      unfold Rst.hk
      cases hcs : y.cs with
      | nil => exact absurd hcs g3
      | cons z l =>
        rw [hcs] at hrun hd
        rcases List.mem_cons.1 hd with rfl | hd
        · exact lt_irr _
        · exact lt_asymm' ((List.pairwise_cons.1 hrun).1 d hd)
  refine ⟨h1, h2.symm.trans hx, fun r hr d hd => ?_, fun r hr d hd e => ?_⟩
  · by_cases e : r = x.r
    · subst e
      rw [← h2, hx] at hd
      have hrun := (h.runs _ hr).2
      rw [← h2, hx] at hrun
      rcases List.mem_cons.1 hd with rfl | hd
      · exact lt_irr _
      · exact lt_asymm' ((List.pairwise_cons.1 hrun).1 d hd)
    · obtain ⟨y, hy, e1, e2⟩ := key r hr d hd e
      have h4 := hm y hy
      intro h5
      unfold ltR at h4
      rw [hxk] at h4
      by_cases e3 : y.hk = c.kb
      · rw [e3] at e2; exact e2 h5
      · rw [if_neg e3] at h4
        rcases lt_tri y.hk c.kb with h6 | h6 | h6
        · exact h4 h6
        · exact e3 h6
        · exact e2 (List.lt_trans h5 h6)
  · obtain ⟨y, hy, e1, e2⟩ := key r (by omega) d hd (by omega)
    have h4 := hm y hy
    unfold ltR at h4
    rw [hxk] at h4
    rw [e] at e2
    by_cases e3 : y.hk = c.kb
    · rw [if_pos e3, e1] at h4
      exact h4 hr
    · rw [if_neg e3] at h4
      rcases lt_tri y.hk c.kb with h6 | h6 | h6
      · exact h4 h6
      · exact e3 h6
      · exact e2 h6
theorem look_rest {k : List UInt8} (hx : R x.r = c :: cs) (hk : c.kb ≠ k) (r : Nat) : look k (restR R x.r cs r) = look k (R r) := by
  unfold restR
  by_cases e : r = x.r
  · rw [if_pos e, e, hx, look_cons, if_neg hk]
  · rw [if_neg e]
theorem Merging.rests (h : Merging rs M R) (hx : R x.r = c :: cs) (hr : x.r < rs.length) : (∀ r, r < rs.length → Run (restR R x.r cs r)) ∧ ∀ r, ∀ d ∈ restR R x.r cs r, d ∈ R r := by
  constructor
  · intro r hlt
    unfold restR
    by_cases e : r = x.r
    · rw [if_pos e]
      have := h.runs _ hr
      rw [hx] at this
      exact ⟨fun y hy => this.1 y (List.mem_cons_of_mem _ hy), (List.pairwise_cons.1 this.2).2⟩
    · rw [if_neg e]
      exact h.runs r hlt
  · intro r d hd
    unfold restR at hd
    by_cases e : r = x.r
    · rw [if_pos e] at hd
      rw [e, hx]
      exact List.mem_cons_of_mem _ hd
    · rwa [if_neg e] at hd
/-- the change is of a key that has been taken -/
theorem Merging.skip (h : Merging rs M R) (ho : HeapOf L R rs.length) (hp : L.Perm (x :: L')) (hm : ∀ y ∈ L', ¬ ltR y x) (hx : x.cs = c :: cs) {b : Chg} (hb : M.getLast? = some b) (hk : b.kb = c.kb) : Merging rs M (restR R x.r cs) := by
  obtain ⟨h1, h2, h3, h4⟩ := h.least ho hp hm hx
  obtain ⟨g1, g2⟩ := h.rests h2 h1
  refine ⟨h.run, g1, fun a ha r hr d hd => h.low a ha r hr d (g2 r d hd), fun k => ?_⟩
  rw [h.found k]
  by_cases e : c.kb = k
  · have hbm : b ∈ M := List.mem_of_getLast? hb
    have := look_of h.run.2 hbm
    rw [hk, e] at this
    rw [this]
    rfl
  · congr 1
    exact (mlookR_congr fun r _ => look_rest h2 e r).symm
/-- the change is the first of its key -/
theorem Merging.take (h : Merging rs M R) (ho : HeapOf L R rs.length) (hp : L.Perm (x :: L')) (hm : ∀ y ∈ L', ¬ ltR y x) (hx : x.cs = c :: cs) (hb : ∀ b, M.getLast? = some b → b.kb ≠ c.kb) : Merging rs (M ++ [c]) (restR R x.r cs) := by
  obtain ⟨h1, h2, h3, h4⟩ := h.least ho hp hm hx
  obtain ⟨g1, g2⟩ := h.rests h2 h1
  have hcm : c ∈ R x.r := by rw [h2]; simp
  have hlow : ∀ a ∈ M, a.kb < c.kb := by
    cases hl : M.getLast? with
    | none =>
      have : M = [] := List.getLast?_eq_none_iff.1 hl
      simp [this]
    | some b => exact last_key h.run.2 (fun a ha => h.low a ha x.r h1 c hcm) hl (hb b hl)
  refine ⟨⟨fun y hy => ?_, srt_snoc.2 ⟨h.run.2, hlow⟩⟩, g1, fun a ha r hr d hd => ?_, fun k => ?_⟩
  · rcases List.mem_append.1 hy with hy | hy
    · exact h.run.1 y hy
    · simp at hy
      subst hy
      exact (h.runs x.r h1).1 _ hcm
  · rcases List.mem_append.1 ha with ha | ha
    · exact h.low a ha r hr d (g2 r d hd)
    · simp at ha
      subst ha
      exact h3 r hr d (g2 r d hd)
  · rw [h.found k, look_app, look_cons, look_nil]
    by_cases e : c.kb = k
    · have hn : look k M = none := look_none.2 fun a ha e2 => by
        have := hlow a ha
        rw [e2, e] at this
        exact lt_irr _ this
      rw [hn, if_pos e, mlookR_first (r0 := x.r) (c := c) (fun r hr => look_none.2 fun d hd => by rw [← e]; exact h4 r hr d hd) (by rw [h2, look_cons, if_pos e]) h1]
      rfl
    · rw [if_neg e, Option.or_none]
      congr 1
      exact (mlookR_congr fun r _ => look_rest h2 e r).symm
theorem HeapOf.perm {n : Nat} (h : HeapOf L R n) (hp : L'.Perm L) : HeapOf L' R n :=
  ⟨fun x hx => h.mem x (hp.mem_iff.1 hx), fun r hr hn => by
    obtain ⟨x, hx, e⟩ := h.all r hr hn
    exact ⟨x, hp.mem_iff.2 hx, e⟩, ((hp.map _).nodup_iff).2 h.nod⟩
/-- the rest is taken away, what is left of it comes back -/
theorem HeapOf.next {n : Nat} (h : HeapOf L R n) (hp : L.Perm (x :: L')) (v : Value) : HeapOf (if cs = [] then L' else L' ++ [⟨v, cs, x.r⟩]) (restR R x.r cs) n := by
  have h2 := h.perm hp.symm
  have hnod := h2.nod
  simp only [List.map_cons, List.nodup_cons] at hnod
  have hne : ∀ y ∈ L', y.r ≠ x.r := fun y hy e => hnod.1 (e ▸ List.mem_map.2 ⟨y, hy, rfl⟩)
  have hold : ∀ y ∈ L', y.r < n ∧ y.cs = restR R x.r cs y.r ∧ y.cs ≠ [] := fun y hy => by
    obtain ⟨a1, a2, a3⟩ := h2.mem y (List.mem_cons_of_mem _ hy)
    refine ⟨a1, ?_, a3⟩
    unfold restR
    rw [if_neg (hne y hy)]
    exact a2
  have hall : ∀ r, r < n → r ≠ x.r → R r ≠ [] → ∃ y ∈ L', y.r = r := fun r hr hn hR => by
    obtain ⟨y, hy, e⟩ := h2.all r hr hR
    rcases List.mem_cons.1 hy with rfl | hy
    · exact absurd e.symm hn
    · exact ⟨y, hy, e⟩
  by_cases hc : cs = []
  · rw [if_pos hc]
    refine ⟨hold, fun r hr hR => ?_, hnod.2⟩
    unfold restR at hR
    by_cases e : r = x.r
    · rw [if_pos e] at hR; exact absurd hc hR
    · rw [if_neg e] at hR; exact hall r hr e hR
  · rw [if_neg hc]
    refine ⟨fun y hy => ?_, fun r hr hR => ?_, ?_⟩
    · rcases List.mem_append.1 hy with hy | hy
      · exact hold y hy
      · simp at hy
        subst hy
        exact ⟨(h2.mem x (by simp)).1, by simp [restR], hc⟩
    · by_cases e : r = x.r
      · exact ⟨⟨v, cs, x.r⟩, by simp, e.symm⟩
      · unfold restR at hR
        rw [if_neg e] at hR
        obtain ⟨y, hy, e2⟩ := hall r hr e hR
        exact ⟨y, List.mem_append_left _ hy, e2⟩
    · rw [List.map_append, List.nodup_append]
      refine ⟨hnod.2, by simp, fun a ha b hb => ?_⟩
      simp at hb
      subst hb
      obtain ⟨y, hy, rfl⟩ := List.mem_map.1 ha
      exact hne y hy
end
/-- how many changes are left -/
def left (L : List Rst) : Nat := (L.map (·.cs.length)).sum
theorem left_perm {L L' : List Rst} (h : L.Perm L') : left L = left L' := (h.map _).sum_nat
end Go.Proofs.Yteioopcacpihpaa

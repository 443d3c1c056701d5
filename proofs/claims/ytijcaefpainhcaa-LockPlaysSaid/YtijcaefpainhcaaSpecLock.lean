/- Layer 16 in plain words: locks by rising numbers, each with a least form of ranges. No condition. -/
import Derived.Test.YtijcaefpainhcaaSpecSpan
namespace Go.Proofs.Ytijcaefpainhcaa

open Classical in
/-- the least form of what is so (nothing where it has none) -/
noncomputable def theForm (P : List UInt8 → Prop) : List Rg := if h : ∃ m, IsForm m P then Classical.choose h else []
theorem theForm_eq {P : List UInt8 → Prop} {m : List Rg} (h : IsForm m P) : theForm P = m := by
  have he : ∃ m, IsForm m P := ⟨m, h⟩
  unfold theForm
  rw [dif_pos he]
  exact isForm_uniq (Classical.choose_spec he) h (fun _ => Iff.rfl)
noncomputable def leastT (l : List Rg) : List Rg := theForm (inS l)
noncomputable def minusT (l : List Rg) (r : Rg) : List Rg := theForm (fun s => inS l s ∧ ¬ hasR r s)
theorem leastT_form {l : List Rg} (h : Form l) : leastT l = l := theForm_eq ⟨h, fun _ => Iff.rfl⟩

/-! ### where a least form's ranges begin, and how many there are -/
theorem pair_mem {α : Type} {R : α → α → Prop} : ∀ {l : List α}, l.Pairwise R → ∀ {a b : α}, a ∈ l → b ∈ l → a = b ∨ R a b ∨ R b a
  | [], _, _, _, h, _ => by simp at h
  | x :: l, hp, a, b, ha, hb => by
    obtain ⟨h1, h2⟩ := List.pairwise_cons.1 hp
    rcases List.mem_cons.1 ha with ea | ha'
    · rcases List.mem_cons.1 hb with eb | hb'
      · exact .inl (ea.trans eb.symm)
      · exact .inr (.inl (ea ▸ h1 b hb'))
    · rcases List.mem_cons.1 hb with eb | hb'
      · exact .inr (.inr (eb ▸ h1 a ha'))
      · exact pair_mem h2 ha' hb'
theorem low_in {m l : List Rg} (h : IsForm m (inS l)) : ∀ x ∈ m, ∃ y ∈ l, y.lb = x.lb := by
  intro x hx
  have hxe := h.1.1 x hx
  obtain ⟨y, hy, hyx⟩ := (h.2 x.lb).1 ⟨x, hx, has_lo hxe⟩
  refine ⟨y, hy, ?_⟩
  apply Classical.byContradiction
  intro hne
  have hlt : y.lb < x.lb := by
    rcases Classical.em (y.lb < x.lb) with h1 | h1
    · exact h1
    · exact absurd (List.le_antisymm (List.not_lt.1 hyx.1) (List.not_lt.1 h1)) hne
  have hyy : hasR y y.lb := ⟨lt_irr _, hyx.2.imp id (fun h1 => List.lt_trans hlt h1)⟩
  obtain ⟨z, hz, hzy⟩ := (h.2 y.lb).2 ⟨y, hy, hyy⟩
  rcases pair_mem h.1.2 hz hx with e | g | g
  · subst e
    exact hzy.1 hlt
  · have hzh : y.lb < z.hb := hzy.2.resolve_left g.1
    obtain ⟨q, hq, hqz⟩ := (h.2 z.hb).2 ⟨y, hy, fun hh => lt_irr _ (List.lt_trans hh hzh), hyx.2.imp id (fun h1 => List.lt_trans g.2 h1)⟩
    rcases pair_mem h.1.2 hz hq with e | g2 | g2
    · subst e
      rcases hqz.2 with h1 | h1
      · exact g.1 h1
      · exact lt_irr _ h1
    · exact hqz.1 g2.2
    · have h3 : z.hb < q.hb := hqz.2.resolve_left g2.1
      exact hzy.1 (List.lt_trans hzh (List.lt_trans h3 g2.2))
  · have h3 := full_lt hxe g.1
    exact hzy.1 (List.lt_trans hlt (List.lt_trans h3 g.2))
theorem nodup_len {α : Type} [DecidableEq α] : ∀ {l P : List α}, l.Pairwise (· ≠ ·) → (∀ x ∈ l, x ∈ P) → l.length ≤ P.length
  | [], _, _, _ => by simp
  | x :: l, P, hp, hs => by
    obtain ⟨h1, h2⟩ := List.pairwise_cons.1 hp
    have hx := hs x (by simp)
    have ih := nodup_len (P := P.erase x) h2 (fun y hy => (List.mem_erase_of_ne (fun e => h1 y hy e.symm)).2 (hs y (by simp [hy])))
    rw [List.length_erase_of_mem hx] at ih
    have : 0 < P.length := List.length_pos_of_mem hx
    simp only [List.length_cons]
    omega
theorem form_len {m : List Rg} {P : List (List UInt8)} (h : Form m) (hp : ∀ x ∈ m, x.lb ∈ P) : m.length ≤ P.length := by
  have h1 : (m.map Rg.lb).Pairwise (· ≠ ·) := by
    rw [List.pairwise_map]
    refine List.Pairwise.imp_of_mem (fun {a b} ha hb g => ?_) h.2
    intro e
    have := full_lt (h.1 a ha) g.1
    exact lt_irr _ (List.lt_trans (e ▸ this) g.2)
  have := nodup_len h1 (P := P) (fun x hx => by
    obtain ⟨y, hy, rfl⟩ := List.mem_map.1 hx
    exact hp y hy)
  simpa using this
theorem least_len {m l : List Rg} (h : IsForm m (inS l)) : m.length ≤ l.length := by
  have := form_len (P := l.map Rg.lb) h.1 (fun x hx => by
    obtain ⟨y, hy, e⟩ := low_in h x hx
    exact List.mem_map.2 ⟨y, hy, e⟩)
  simpa using this
theorem out_lo {r o : Rg} (h : o ∈ outR r) : o.lb = [] ∨ o.lb = r.hb := by
  unfold outR at h
  rcases List.mem_append.1 h with h | h
  · split at h
    · simp at h
    · simp at h; subst h; exact .inl rfl
  · split at h
    · simp at h
    · simp at h; subst h; exact .inr rfl
theorem minus_len {m l : List Rg} {r : Rg} (h : IsForm m (fun s => inS l s ∧ ¬ hasR r s)) : m.length ≤ l.length + 1 := by
  have h2 : IsForm m (inS (leftsL l r)) := h.congr fun s => (lefts_has l r s).symm
  have := form_len (P := r.hb :: l.map Rg.lb) h.1 (fun x hx => by
    obtain ⟨y, hy, e⟩ := low_in h2 x hx
    rw [← e]
    obtain ⟨a, ha, hy⟩ := List.mem_flatMap.1 hy
    obtain ⟨o, ho, hy⟩ := List.mem_flatMap.1 hy
    have : y = meetR a o := by
      unfold meetL at hy
      split at hy
      · simp at hy
      · simpa using hy
    subst this
    have hl : (meetR a o).lb = if a.lb < o.lb then o.lb else a.lb := by
      unfold meetR Rg.lb
      show (if _ then _ else _ : ByteArray).data.toList = _
      split <;> rfl
    rw [hl]
    rcases Classical.em (a.lb < o.lb) with h1 | h1
    · rw [if_pos h1]
      rcases out_lo ho with e1 | e1
      · rw [e1] at h1
        exact absurd h1 (lt_nil _)
      · rw [e1]; simp
    · rw [if_neg h1]
      exact List.mem_cons_of_mem _ (List.mem_map.2 ⟨a, ha, rfl⟩))
  simpa using this

/-! ### the locks -/
/-- a lock: its number, what it has, and how many ticks it holds -/
structure TL where
  n : Int
  L : List Rg
  left : Int
def getL (k : Int) (E : List TL) : Option TL := E.find? fun p => decide (p.n = k)
def delL (k : Int) (E : List TL) : List TL := E.filter fun p => !decide (p.n = k)
def updL (e : TL) (E : List TL) : List TL := E.map fun p => if p.n = e.n then e else p
def insL (e : TL) : List TL → List TL
  | [] => [e]
  | p :: l => if e.n < p.n then e :: p :: l else p :: insL e l
def hasL (k : Int) (E : List TL) : List TL := match getL k E with | some _ => E | none => insL ⟨k, [], 0⟩ E
def rangesT (k : Int) (E : List TL) : List Rg := match getL k E with | some p => p.L | none => []
noncomputable def takeT (x k : Int) (r : Rg) (E : List TL) : List TL := if k < 1 ∨ emptyR r then E else updL ⟨k, leastT (rangesT k E ++ [r]), x⟩ (hasL k E)
def takeE (k : Int) (r : Rg) : Int := if k < 1 ∨ emptyR r then 1 else 0
def renewT (x k : Int) (E : List TL) : List TL := match getL k E with | some p => updL ⟨k, p.L, x⟩ E | none => E
def tick1 (p : TL) : Option TL := if p.left - 1 = 0 then none else some ⟨p.n, p.L, p.left - 1⟩
def tickT (E : List TL) : List TL := E.filterMap tick1
noncomputable def lose1 (r : Rg) (p : TL) : Option TL := if minusT p.L r = [] then none else some ⟨p.n, minusT p.L r, p.left⟩
noncomputable def loseT (r : Rg) (E : List TL) : List TL := E.filterMap (lose1 r)

def RiseL (E : List TL) : Prop := E.Pairwise fun p q => p.n < q.n
/-- a lock as it may be -/
structure One (b : Int) (N : Nat) (p : TL) : Prop where
  left : 1 ≤ p.left ∧ p.left ≤ b
  form : Form p.L
  some_ : p.L ≠ []
  small : Small 200 p.L
  len : p.L.length ≤ N
/-- locks as they may be -/
structure TInv (b : Int) (N : Nat) (E : List TL) : Prop where
  rise : RiseL E
  len : E.length ≤ N
  one : ∀ p ∈ E, One b N p
theorem TInv.nil (b : Int) (N : Nat) : TInv b N [] := ⟨List.Pairwise.nil, by simp, by simp⟩
theorem One.more {b : Int} {N : Nat} {p : TL} (h : One b N p) {K : Nat} (hK : N ≤ K) : One b K p := ⟨h.left, h.form, h.some_, h.small, Nat.le_trans h.len hK⟩
theorem TInv.more {b : Int} {N : Nat} {E : List TL} (h : TInv b N E) {K : Nat} (hK : N ≤ K) : TInv b K E := ⟨h.rise, Nat.le_trans h.len hK, fun p hp => (h.one p hp).more hK⟩
theorem getL_some {k : Int} {E : List TL} {p : TL} (h : getL k E = some p) : p ∈ E ∧ p.n = k :=
  ⟨List.mem_of_find?_eq_some h, by have := List.find?_some h; simpa using this⟩
theorem getL_none {k : Int} {E : List TL} (h : getL k E = none) : ∀ p ∈ E, p.n ≠ k := by
  intro p hp
  have := List.find?_eq_none.1 h p hp
  simpa using this
theorem rise_eq {E : List TL} (h : RiseL E) {p q : TL} (hp : p ∈ E) (hq : q ∈ E) (e : p.n = q.n) : p = q := by
  rcases pair_mem h hp hq with h1 | h1 | h1
  · exact h1
  · omega
  · omega
theorem getL_mem {E : List TL} (h : RiseL E) {p : TL} (hp : p ∈ E) : getL p.n E = some p := by
  cases hg : getL p.n E with
  | none => exact absurd rfl (getL_none hg p hp)
  | some q =>
    obtain ⟨h1, h2⟩ := getL_some hg
    rw [rise_eq h h1 hp h2]
theorem updL_rise {e : TL} {E : List TL} (h : RiseL E) : RiseL (updL e E) := by
  unfold updL RiseL
  rw [List.pairwise_map]
  refine List.Pairwise.imp (fun {a b} hab => ?_) h
  split <;> split <;> simp_all
theorem updL_len (e : TL) (E : List TL) : (updL e E).length = E.length := by simp [updL]
theorem mem_updL {e q : TL} {E : List TL} (h : q ∈ updL e E) : q = e ∨ q ∈ E := by
  obtain ⟨p, hp, rfl⟩ := List.mem_map.1 h
  split
  · exact .inl rfl
  · exact .inr hp
theorem delL_rise {k : Int} {E : List TL} (h : RiseL E) : RiseL (delL k E) := List.Pairwise.filter _ h
theorem mem_insL {e q : TL} : ∀ {E : List TL}, q ∈ insL e E ↔ q = e ∨ q ∈ E
  | [] => by simp [insL]
  | p :: l => by
    unfold insL
    split
    · simp
    · simp only [List.mem_cons, mem_insL (E := l)]
      constructor
      · rintro (h | h | h) <;> simp [h]
      · rintro (h | h | h) <;> simp [h]
theorem insL_len (e : TL) : ∀ (E : List TL), (insL e E).length = E.length + 1
  | [] => rfl
  | p :: l => by
    unfold insL
    split
    · simp
    · simp [insL_len e l]
theorem insL_rise {e : TL} : ∀ {E : List TL}, RiseL E → (∀ p ∈ E, p.n ≠ e.n) → RiseL (insL e E)
  | [], _, _ => by simp [insL, RiseL]
  | p :: l, h, hn => by
    obtain ⟨h1, h2⟩ := List.pairwise_cons.1 h
    unfold insL
    split
    · rename_i hlt
      refine List.pairwise_cons.2 ⟨fun q hq => ?_, h⟩
      rcases List.mem_cons.1 hq with rfl | hq
      · exact hlt
      · have := h1 q hq; omega
    · rename_i hlt
      have hpe := hn p (by simp)
      refine List.pairwise_cons.2 ⟨fun q hq => ?_, insL_rise h2 (fun q hq => hn q (by simp [hq]))⟩
      rcases mem_insL.1 hq with rfl | hq
      · omega
      · exact h1 q hq
theorem hasL_rise {k : Int} {E : List TL} (h : RiseL E) : RiseL (hasL k E) := by
  unfold hasL
  cases hg : getL k E with
  | some p => exact h
  | none => exact insL_rise h (getL_none hg)
theorem mem_hasL {k : Int} {E : List TL} {q : TL} (h : q ∈ hasL k E) : q.n = k ∨ q ∈ E := by
  unfold hasL at h
  cases hg : getL k E with
  | some p => rw [hg] at h; exact .inr h
  | none =>
    rw [hg] at h
    rcases mem_insL.1 h with rfl | h
    · exact .inl rfl
    · exact .inr h
theorem hasL_len (k : Int) (E : List TL) : (hasL k E).length ≤ E.length + 1 := by
  unfold hasL
  cases getL k E with
  | some p => exact Nat.le_succ _
  | none => exact Nat.le_of_eq (insL_len _ _)
theorem mem_updL2 {e q : TL} {E : List TL} (h : q ∈ updL e E) : q = e ∨ (q ∈ E ∧ q.n ≠ e.n) := by
  obtain ⟨p, hp, rfl⟩ := List.mem_map.1 h
  split
  · exact .inl rfl
  · exact .inr ⟨hp, by assumption⟩

/-! ### locks stay as they may be -/
section
variable {b : Int} {N : Nat} {E : List TL}
theorem ranges_of (h : TInv b N E) (k : Int) : Form (rangesT k E) ∧ Small 200 (rangesT k E) ∧ (rangesT k E).length ≤ N := by
  unfold rangesT
  cases hg : getL k E with
  | none => exact ⟨Form.nil, by intro r hr; simp at hr, by simp⟩
  | some p =>
    have := h.one p (getL_some hg).1
    exact ⟨this.form, this.small, this.len⟩
theorem TInv.take (h : TInv b N E) {x k : Int} {r : Rg} (hx : 1 ≤ x ∧ x ≤ b) {m : List Rg} (hm : IsForm m (inS (rangesT k E ++ [r]))) (hs : Small 200 m) : TInv b (N + 1) (takeT x k r E) := by
  unfold takeT
  by_cases hc : k < 1 ∨ emptyR r
  · rw [if_pos hc]; exact h.more (Nat.le_succ _)
  · rw [if_neg hc]
    have e : leastT (rangesT k E ++ [r]) = m := theForm_eq hm
    rw [e]
    refine ⟨updL_rise (hasL_rise h.rise), ?_, fun q hq => ?_⟩
    · rw [updL_len]
      have := hasL_len k E
      have := h.len
      omega
    · rcases mem_updL2 hq with rfl | ⟨hq, hne⟩
      · refine ⟨hx, hm.1, fun e0 => ?_, hs, ?_⟩
        · simp only at e0
          have hr : ¬ emptyR r := fun h1 => hc (.inr h1)
          have := (hm.2 r.lb).2 ⟨r, by simp, has_lo hr⟩
          rw [e0] at this
          exact in_nil _ this
        · have := least_len hm
          have := (ranges_of h k).2.2
          simp at *
          omega
      · rcases mem_hasL hq with h1 | h1
        · exact absurd h1 hne
        · exact (h.one q h1).more (Nat.le_succ _)
theorem TInv.renew (h : TInv b N E) {x k : Int} (hx : 1 ≤ x ∧ x ≤ b) : TInv b N (renewT x k E) := by
  unfold renewT
  cases hg : getL k E with
  | none => exact h
  | some p =>
    refine ⟨updL_rise h.rise, by rw [updL_len]; exact h.len, fun q hq => ?_⟩
    rcases mem_updL hq with rfl | hq
    · have := h.one p (getL_some hg).1
      exact ⟨hx, this.form, this.some_, this.small, this.len⟩
    · exact h.one q hq
theorem TInv.free (h : TInv b N E) (k : Int) : TInv b N (delL k E) :=
  ⟨delL_rise h.rise, Nat.le_trans (List.length_filter_le _ _) h.len, fun q hq => h.one q (List.mem_filter.1 hq).1⟩
/-- what keeps the numbers keeps their order -/
theorem map_rise {f : TL → Option TL} (hf : ∀ p q, f p = some q → q.n = p.n) (h : RiseL E) : RiseL (E.filterMap f) := by
  unfold RiseL
  rw [List.pairwise_filterMap]
  refine List.Pairwise.imp (fun {a b} hab c hc d hd => ?_) h
  rw [hf a c hc, hf b d hd]
  exact hab
theorem tick_n (p q : TL) (h : tick1 p = some q) : q.n = p.n := by
  unfold tick1 at h
  split at h
  · cases h
  · cases h; rfl
theorem lose_n (r : Rg) (p q : TL) (h : lose1 r p = some q) : q.n = p.n := by
  unfold lose1 at h
  split at h
  · cases h
  · cases h; rfl
theorem TInv.tick (h : TInv b N E) : TInv b N (tickT E) := by
  refine ⟨map_rise tick_n h.rise, Nat.le_trans (List.length_filterMap_le _ _) h.len, fun q hq => ?_⟩
  obtain ⟨p, hp, hq⟩ := List.mem_filterMap.1 hq
  have := h.one p hp
  unfold tick1 at hq
  split at hq
  · cases hq
  · cases hq
    refine ⟨?_, this.form, this.some_, this.small, this.len⟩
    have := this.left
    simp only
    omega
theorem TInv.lose (h : TInv b N E) {r : Rg} (hm : ∀ p ∈ E, ∃ m, IsForm m (fun s => inS p.L s ∧ ¬ hasR r s) ∧ Small 200 m) : TInv b (N + 1) (loseT r E) := by
  refine ⟨map_rise (lose_n r) h.rise, Nat.le_trans (List.length_filterMap_le _ _) (Nat.le_succ_of_le h.len), fun q hq => ?_⟩
  obtain ⟨p, hp, hq⟩ := List.mem_filterMap.1 hq
  have := h.one p hp
  obtain ⟨m, h1, h2⟩ := hm p hp
  have e : minusT p.L r = m := theForm_eq h1
  unfold lose1 at hq
  rw [e] at hq
  split at hq
  · cases hq
  · rename_i hne
    cases hq
    refine ⟨this.left, h1.1, hne, h2, ?_⟩
    have h4 := minus_len h1
    have h5 := this.len
    simp only
    omega
end

/-! ### a change of all locks, one after another, in whatever order -/
theorem fm_congr {α β : Type} {f g : α → Option β} : ∀ {l : List α}, (∀ x ∈ l, f x = g x) → l.filterMap f = l.filterMap g
  | [], _ => rfl
  | x :: l, h => by
    rw [List.filterMap_cons, List.filterMap_cons, h x (by simp), fm_congr (fun y hy => h y (by simp [hy]))]
def gL (f : TL → Option TL) (left : Lit → Bool) (p : TL) : Option TL := if left (.int .i64 p.n) then some p else f p
theorem gL_start {f : TL → Option TL} {left : Lit → Bool} {E : List TL} (h : ∀ p ∈ E, left (.int .i64 p.n) = true) : E.filterMap (gL f left) = E := by
  rw [fm_congr (g := some) (fun p hp => by unfold gL; rw [if_pos (h p hp)])]
  simp
theorem gL_end {f : TL → Option TL} {left : Lit → Bool} {E : List TL} (h : ∀ kl, left kl = false) : E.filterMap (gL f left) = E.filterMap f := by
  refine fm_congr fun p _ => ?_
  unfold gL
  rw [h]
  rfl
theorem filterMap_map {α β γ : Type} (g : α → Option β) (h : β → γ) (l : List α) : (l.filterMap g).map h = l.filterMap fun x => (g x).map h := by
  rw [List.map_filterMap]
theorem filterMap_filter {α β : Type} (g : α → Option β) (h : β → Bool) (l : List α) : (l.filterMap g).filter h = l.filterMap fun x => (g x).filter h := by
  rw [List.filter_filterMap]
theorem same_i64 (a x : Int) : (Lit.int .i64 a).sameKey (.int .i64 x) = decide (a = x) := by simp [Lit.sameKey]
/-- an entry that is still to come stands as it was -/
theorem gL_mem {f : TL → Option TL} {left : Lit → Bool} {E : List TL} (hf : ∀ p q, f p = some q → q.n = p.n) {q : TL} (hq : q ∈ E.filterMap (gL f left)) (hl : left (.int .i64 q.n) = true) : q ∈ E := by
  obtain ⟨p, hp, h⟩ := List.mem_filterMap.1 hq
  unfold gL at h
  split at h
  · cases h; exact hp
  · rename_i h1
    rw [hf p q h] at hl
    exact absurd hl h1
theorem gL_upd {f : TL → Option TL} {left : Lit → Bool} {E : List TL} (hd : RiseL E) (hf : ∀ p q, f p = some q → q.n = p.n) {p0 p1 : TL} (h0 : p0 ∈ E) (h1 : f p0 = some p1) :
    updL p1 (E.filterMap (gL f left)) = E.filterMap (gL f fun z => left z && !z.sameKey (.int .i64 p0.n)) := by
  unfold updL
  rw [filterMap_map]
  refine fm_congr fun p hp => ?_
  have e1 := hf _ _ h1
  unfold gL
  simp only [same_i64]
  by_cases he : p.n = p0.n
  · have := rise_eq hd hp h0 he
    subst this
    simp only [decide_true, Bool.not_true, Bool.and_false, Bool.false_eq_true, if_false]
    split
    · simp [e1, h1]
    · simp [e1, h1]
  · simp only [he, decide_false, Bool.not_false, Bool.and_true]
    split
    · simp [e1, he]
    · cases hfp : f p with
      | none => rfl
      | some q =>
        have := hf p q hfp
        simp [e1, this, he]
theorem gL_del {f : TL → Option TL} {left : Lit → Bool} {E : List TL} (hd : RiseL E) (hf : ∀ p q, f p = some q → q.n = p.n) {p0 : TL} (h0 : p0 ∈ E) (h1 : f p0 = none) :
    delL p0.n (E.filterMap (gL f left)) = E.filterMap (gL f fun z => left z && !z.sameKey (.int .i64 p0.n)) := by
  unfold delL
  rw [filterMap_filter]
  refine fm_congr fun p hp => ?_
  unfold gL
  simp only [same_i64]
  by_cases he : p.n = p0.n
  · have := rise_eq hd hp h0 he
    subst this
    simp only [decide_true, Bool.not_true, Bool.and_false, Bool.false_eq_true, if_false]
    split
    · simp [h1, Option.filter]
    · simp [h1]
  · simp only [he, decide_false, Bool.not_false, Bool.and_true]
    split
    · simp [Option.filter, he]
    · cases hfp : f p with
      | none => rfl
      | some q =>
        have := hf p q hfp
        simp [Option.filter, this, he]
end Go.Proofs.Ytijcaefpainhcaa

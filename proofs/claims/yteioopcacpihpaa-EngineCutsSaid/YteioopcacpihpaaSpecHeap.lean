/-
  Heaps as plain mathematics: what swaps, rising and sinking leave. Nothing of the translated program is named here.
-/
namespace Go.Proofs.Yteioopcacpihpaa
section
variable {α : Type} {lt : α → α → Prop}

/-- a strict order in which to stand not below is passed on -/
structure Weak (lt : α → α → Prop) : Prop where
  asym : ∀ {a b}, lt a b → ¬ lt b a
  neg : ∀ {a b c}, ¬ lt a b → ¬ lt b c → ¬ lt a c
theorem Weak.trans (h : Weak lt) {a b c : α} (h1 : lt a b) (h2 : lt b c) : lt a c :=
  Classical.byContradiction fun hn => h.neg hn (h.asym h2) h1
def swf (g : Nat → α) (i j : Nat) : Nat → α := fun k => if k = j then g i else if k = i then g j else g k
def IsHeap (lt : α → α → Prop) (g : Nat → α) (n : Nat) : Prop := ∀ i, 0 < i → i < n → ¬ lt (g i) (g ((i - 1) / 2))
/-- a heap but for place j, which may rise -/
def UpI (lt : α → α → Prop) (g : Nat → α) (n j : Nat) : Prop :=
  (∀ i, 0 < i → i < n → i ≠ j → ¬ lt (g i) (g ((i - 1) / 2))) ∧ ∀ i, 0 < i → i < n → (i - 1) / 2 = j → 0 < j → ¬ lt (g i) (g ((j - 1) / 2))
/-- a heap but for place j, which may sink -/
def DownI (lt : α → α → Prop) (g : Nat → α) (n j : Nat) : Prop :=
  (∀ i, 0 < i → i < n → (i - 1) / 2 ≠ j → ¬ lt (g i) (g ((i - 1) / 2))) ∧ ∀ i, 0 < i → i < n → (i - 1) / 2 = j → 0 < j → ¬ lt (g i) (g ((j - 1) / 2))
theorem UpI.start {g : Nat → α} {n : Nat} (h : IsHeap lt g n) : UpI lt g (n + 1) n :=
  ⟨fun i h0 hi hne => h i h0 (by omega), fun i h0 hi he => by omega⟩
theorem UpI.stop {g : Nat → α} {n j : Nat} (h : UpI lt g n j) (hs : j = 0 ∨ ¬ lt (g j) (g ((j - 1) / 2))) : IsHeap lt g n := fun i h0 hi => by
  by_cases e : i = j
  · subst e
    rcases hs with hs | hs
    · omega
    · exact hs
  · exact h.1 i h0 hi e
theorem UpI.step (hw : Weak lt) {g : Nat → α} {n j : Nat} (h : UpI lt g n j) (hj : 0 < j) (hn : j < n) (hl : lt (g j) (g ((j - 1) / 2))) : UpI lt (swf g ((j - 1) / 2) j) n ((j - 1) / 2) := by
  obtain ⟨p, hp⟩ : ∃ p, (j - 1) / 2 = p := ⟨_, rfl⟩
  rw [hp] at hl ⊢
  have hpj : p < j := by omega
  have hpn : p < n := by omega
  refine ⟨fun i h0 hi hne => ?_, fun i h0 hi he h0p => ?_⟩
  · by_cases h1 : i = j
    · subst h1
      unfold swf
      rw [if_pos rfl, hp, if_neg (by omega), if_pos rfl]
      exact hw.asym hl
    · by_cases h2 : (i - 1) / 2 = j
      · have h3 := h.2 i h0 hi h2 hj
        rw [hp] at h3
        unfold swf
        rw [if_neg h1, if_neg hne, if_pos h2]
        exact h3
      · by_cases h3 : (i - 1) / 2 = p
        · have h4 := h.1 i h0 hi h1
          rw [h3] at h4
          unfold swf
          rw [if_neg h1, if_neg hne, if_neg h2, if_pos h3]
          exact fun h5 => h4 (hw.trans h5 hl)
        · unfold swf
          rw [if_neg h1, if_neg hne, if_neg h2, if_neg h3]
          exact h.1 i h0 hi h1
  · have h5 := h.1 p h0p hpn (by omega)
    unfold swf
    rw [if_neg (by omega : ¬ (p - 1) / 2 = j), if_neg (by omega : ¬ (p - 1) / 2 = p)]
    by_cases h1 : i = j
    · rw [if_pos h1]
      exact h5
    · rw [if_neg h1, if_neg (by omega)]
      have h4 := h.1 i h0 hi h1
      rw [he] at h4
      exact hw.neg h4 h5
theorem DownI.start {g : Nat → α} {n : Nat} (h : IsHeap lt g (n + 1)) : DownI lt (swf g 0 n) n 0 := by
  refine ⟨fun i h0 hi hne => ?_, fun i h0 hi he h0 => by omega⟩
  unfold swf
  rw [if_neg (by omega), if_neg (by omega), if_neg (by omega), if_neg hne]
  exact h i h0 (by omega)
theorem DownI.stop0 {g : Nat → α} {n j : Nat} (h : DownI lt g n j) (hs : n ≤ 2 * j + 1) : IsHeap lt g n := fun i h0 hi => h.1 i h0 hi (by omega)
/-- the least of the children of place j -/
def LeastC (lt : α → α → Prop) (g : Nat → α) (n j c : Nat) : Prop := (c = 2 * j + 1 ∨ c = 2 * j + 2) ∧ c < n ∧ ∀ i, 0 < i → i < n → (i - 1) / 2 = j → ¬ lt (g i) (g c)
theorem LeastC.left (hw : Weak lt) {g : Nat → α} {n j : Nat} (h : 2 * j + 1 < n) (h2 : n ≤ 2 * j + 2 ∨ ¬ lt (g (2 * j + 2)) (g (2 * j + 1))) : LeastC lt g n j (2 * j + 1) := by
  refine ⟨.inl rfl, h, fun i h0 hi he => ?_⟩
  by_cases e : i = 2 * j + 1
  · subst e
    exact fun h => hw.asym h h
  · have e2 : i = 2 * j + 2 := by omega
    subst e2
    rcases h2 with h2 | h2
    · omega
    · exact h2
theorem LeastC.right (hw : Weak lt) {g : Nat → α} {n j : Nat} (h : 2 * j + 2 < n) (h2 : lt (g (2 * j + 2)) (g (2 * j + 1))) : LeastC lt g n j (2 * j + 2) := by
  refine ⟨.inr rfl, h, fun i h0 hi he => ?_⟩
  by_cases e : i = 2 * j + 2
  · subst e
    exact fun h => hw.asym h h
  · have e2 : i = 2 * j + 1 := by omega
    subst e2
    exact hw.asym h2
theorem DownI.stop (hw : Weak lt) {g : Nat → α} {n j c : Nat} (h : DownI lt g n j) (hc : LeastC lt g n j c) (hs : ¬ lt (g c) (g j)) : IsHeap lt g n := fun i h0 hi => by
  by_cases e : (i - 1) / 2 = j
  · rw [e]
    exact hw.neg (hc.2.2 i h0 hi e) hs
  · exact h.1 i h0 hi e
theorem DownI.step (hw : Weak lt) {g : Nat → α} {n j c : Nat} (h : DownI lt g n j) (hc : LeastC lt g n j c) (hl : lt (g c) (g j)) : DownI lt (swf g j c) n c := by
  have hcj : (c - 1) / 2 = j := by have := hc.1; omega
  have hjc : j < c := by have := hc.1; omega
  have hcn := hc.2.1
  refine ⟨fun i h0 hi hne => ?_, fun i h0 hi he h0c => ?_⟩
  · by_cases h1 : (i - 1) / 2 = j
    · by_cases h2 : i = c
      · subst h2
        unfold swf
        rw [if_pos rfl, h1, if_neg (by omega), if_pos rfl]
        exact hw.asym hl
      · unfold swf
        rw [if_neg h2, if_neg (by omega), if_neg hne, if_pos h1]
        exact hc.2.2 i h0 hi h1
    · by_cases h2 : i = j
      · subst h2
        unfold swf
        rw [if_neg (by omega), if_pos rfl, if_neg (by omega), if_neg (by omega)]
        exact h.2 c (by omega) hcn hcj h0
      · unfold swf
        rw [if_neg (by omega), if_neg h2, if_neg hne, if_neg h1]
        exact h.1 i h0 hi h1
  · unfold swf
    rw [if_neg (by omega), if_neg (by omega), hcj, if_neg (by omega), if_pos rfl]
    have := h.1 i h0 hi (by omega)
    rwa [he] at this
/-- the first one is the least -/
theorem IsHeap.least (hw : Weak lt) {g : Nat → α} {n : Nat} (h : IsHeap lt g n) : ∀ i, i < n → ¬ lt (g i) (g 0) := by
  intro i
  induction i using Nat.strongRecOn with
  | _ i ih =>
    intro hi
    by_cases h0 : i = 0
    · subst h0
      exact fun h => hw.asym h h
    · exact hw.neg (h i (by omega) hi) (ih ((i - 1) / 2) (by omega) (by omega))
theorem IsHeap.less {g : Nat → α} {n m : Nat} (h : IsHeap lt g n) (hm : m ≤ n) : IsHeap lt g m := fun i h0 hi => h i h0 (by omega)
theorem IsHeap.congr {g g' : Nat → α} {n : Nat} (h : IsHeap lt g n) (e : ∀ i, i < n → g' i = g i) : IsHeap lt g' n := fun i h0 hi => by rw [e i hi, e _ (by omega)]; exact h i h0 hi

/-! ### as lists -/
variable [Inhabited α]
def gl (l : List α) : Nat → α := fun i => l[i]?.getD default
def sw (l : List α) (i j : Nat) : List α := (l.set i (gl l j)).set j (gl l i)
theorem sw_len (l : List α) (i j : Nat) : (sw l i j).length = l.length := by simp [sw]
theorem gl_sw {l : List α} {i j : Nat} (hi : i < l.length) (hj : j < l.length) : gl (sw l i j) = swf (gl l) i j := by
  funext k
  unfold gl sw swf
  rw [List.getElem?_set, List.getElem?_set]
  by_cases h1 : k = j
  · subst h1
    simp [hj, gl]
  · rw [if_neg (fun e => h1 e.symm), if_neg h1]
    by_cases h2 : k = i
    · subst h2
      simp [hi, gl]
    · rw [if_neg (fun e => h2 e.symm), if_neg h2]
theorem gl_get {l : List α} {i : Nat} (h : i < l.length) : l[i]? = some (gl l i) := by simp [gl, h]
theorem gl_mem {l : List α} {i : Nat} (h : i < l.length) : gl l i ∈ l := List.mem_of_getElem? (gl_get h)
theorem sw_perm {l : List α} {i j : Nat} (hi : i < l.length) (hj : j < l.length) : (sw l i j).Perm l := by
  have e1 : gl l i = l[i] := by simp [gl, hi]
  have e2 : gl l j = l[j] := by simp [gl, hj]
  unfold sw
  rw [e1, e2]
  exact List.set_set_perm hi hj
theorem gl_app {l : List α} {x : α} {i : Nat} (h : i < l.length) : gl (l ++ [x]) i = gl l i := by
  unfold gl
  rw [List.getElem?_append_left h]
theorem gl_take {l : List α} {n i : Nat} (h : i < n) : gl (l.take n) i = gl l i := by
  unfold gl
  rw [List.getElem?_take, if_pos h]
end
end Go.Proofs.Yteioopcacpihpaa

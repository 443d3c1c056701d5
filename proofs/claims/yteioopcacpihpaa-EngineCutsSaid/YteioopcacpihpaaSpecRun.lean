/-
  Layer 9 as plain mathematics: changes, runs, what is looked up in them, made, merged, cut. Nothing of the translated program is named here.
-/
import Derived.Test.YteioopcacpihpaaSpecPlain
namespace Go.Proofs.Yteioopcacpihpaa
open Go.Lib (compareBytes)

/-- a change: its key, its value, is it gone? -/
structure Chg where
  k : ByteArray
  v : ByteArray
  g : Bool
deriving DecidableEq
instance : Inhabited Chg := ⟨⟨⟨#[]⟩, ⟨#[]⟩, false⟩⟩
def Chg.kb (c : Chg) : List UInt8 := c.k.data.toList

def Srt (l : List Chg) : Prop := l.Pairwise fun a b => a.kb < b.kb
def Okc (c : Chg) : Prop := c.g = true → c.v = ⟨#[]⟩
def Run (l : List Chg) : Prop := (∀ c ∈ l, Okc c) ∧ Srt l
noncomputable def runB (l : List Chg) : Bool := @decide (Run l) (Classical.propDecidable _)
theorem runB_true {l : List Chg} (h : Run l) : runB l = true := by unfold runB; exact @decide_eq_true _ (Classical.propDecidable _) h
theorem runB_false {l : List Chg} (h : ¬ Run l) : runB l = false := by unfold runB; exact @decide_eq_false _ (Classical.propDecidable _) h
theorem runB_iff {l : List Chg} : runB l = true ↔ Run l := by
  by_cases h : Run l
  · simp [runB_true h, h]
  · simp [runB_false h, h]
theorem Run.nil : Run [] := ⟨by simp, List.Pairwise.nil⟩
theorem Run.take {l : List Chg} (h : Run l) (k : Nat) : Run (l.take k) := ⟨fun c hc => h.1 c (List.mem_of_mem_take hc), h.2.sublist (List.take_sublist k l)⟩
theorem Run.drop {l : List Chg} (h : Run l) (k : Nat) : Run (l.drop k) := ⟨fun c hc => h.1 c (List.mem_of_mem_drop hc), h.2.sublist (List.drop_sublist k l)⟩
theorem srt_snoc {l : List Chg} {c : Chg} : Srt (l ++ [c]) ↔ Srt l ∧ ∀ b ∈ l, b.kb < c.kb := by
  unfold Srt
  rw [List.pairwise_append]
  simp
theorem srt_last {l : List Chg} {b : Chg} (h : Srt (l ++ [b])) {c : Chg} : (∀ a ∈ l ++ [b], a.kb < c.kb) ↔ b.kb < c.kb := by
  refine ⟨fun h => h b (by simp), fun hb a ha => ?_⟩
  rcases List.mem_append.1 ha with ha | ha
  · exact List.lt_trans ((srt_snoc.1 h).2 a ha) hb
  · simp at ha
    subst ha
    exact hb
/-- one change more -/
theorem run_succ {l : List Chg} {k : Nat} {c : Chg} (hc : l[k]? = some c) : Run (l.take (k + 1)) ↔ Run (l.take k) ∧ Okc c ∧ (∀ b, 0 < k → l[k - 1]? = some b → b.kb < c.kb) := by
  have hk := (List.getElem?_eq_some_iff.1 hc).1
  have e : l.take (k + 1) = l.take k ++ [c] := by rw [List.take_add_one, hc]; rfl
  rw [e]
  unfold Run
  rw [srt_snoc]
  have h3 : Srt (l.take k) → ((∀ b ∈ l.take k, b.kb < c.kb) ↔ (∀ b, 0 < k → l[k - 1]? = some b → b.kb < c.kb)) := by
    intro hs
    cases k with
    | zero => simp
    | succ j =>
      have hj : l[j]? = some l[j] := List.getElem?_eq_getElem (by omega)
      have e2 : l.take (j + 1) = l.take j ++ [l[j]] := by rw [List.take_add_one, hj]; rfl
      rw [e2] at hs ⊢
      rw [srt_last hs]
      simp only [Nat.add_sub_cancel, hj, Option.some.injEq]
      exact ⟨fun h b _ e => e ▸ h, fun h => h _ (by omega) rfl⟩
  constructor
  · rintro ⟨h1, h2, h4⟩
    exact ⟨⟨fun c hc => h1 c (List.mem_append_left _ hc), h2⟩, h1 c (by simp), (h3 h2).1 h4⟩
  · rintro ⟨⟨h1, h2⟩, h4, h5⟩
    refine ⟨fun x hx => ?_, h2, (h3 h2).2 h5⟩
    rcases List.mem_append.1 hx with hx | hx
    · exact h1 x hx
    · simp at hx
      subst hx
      exact h4
theorem run_all {l : List Chg} {k : Nat} (h : Run (l.take k)) (hk : l.length ≤ k) : Run l := by rwa [List.take_of_length_le hk] at h

/-! ### what is found -/
def look (k : List UInt8) (l : List Chg) : Option Chg := l.find? fun c => decide (c.kb = k)
theorem look_nil (k : List UInt8) : look k [] = none := rfl
theorem look_cons (k : List UInt8) (c : Chg) (l : List Chg) : look k (c :: l) = if c.kb = k then some c else look k l := by
  unfold look
  rw [List.find?_cons]
  by_cases h : c.kb = k <;> simp [h]
theorem look_key {k : List UInt8} {l : List Chg} {c : Chg} (h : look k l = some c) : c.kb = k := by
  have := List.find?_some h
  simpa using this
theorem look_mem {k : List UInt8} {l : List Chg} {c : Chg} (h : look k l = some c) : c ∈ l := List.mem_of_find?_eq_some h
theorem look_none {k : List UInt8} {l : List Chg} : look k l = none ↔ ∀ c ∈ l, c.kb ≠ k := by
  unfold look
  rw [List.find?_eq_none]
  simp
theorem look_app (k : List UInt8) (a b : List Chg) : look k (a ++ b) = (look k a).or (look k b) := by
  unfold look
  rw [List.find?_append]
theorem look_of {l : List Chg} (h : Srt l) : ∀ {c : Chg}, c ∈ l → look c.kb l = some c := by
  induction l with
  | nil => intro c hc; simp at hc
  | cons y l ih =>
    intro c hc
    obtain ⟨h1, h2⟩ := List.pairwise_cons.1 h
    rw [look_cons]
    rcases List.mem_cons.1 hc with rfl | hc
    · simp
    · have := h1 c hc
      rw [if_neg (fun e => by rw [e] at this; exact lt_irr _ this)]
      exact ih h2 hc
theorem srt_mem : ∀ {a b : List Chg}, Srt a → Srt b → (∀ c, c ∈ a ↔ c ∈ b) → a = b
  | [], [], _, _, _ => rfl
  | [], y :: b, _, _, h => absurd ((h y).2 (by simp)) (by simp)
  | x :: a, [], _, _, h => absurd ((h x).1 (by simp)) (by simp)
  | x :: a, y :: b, ha, hb, h => by
    obtain ⟨a1, a2⟩ := List.pairwise_cons.1 ha
    obtain ⟨b1, b2⟩ := List.pairwise_cons.1 hb
    have e : x = y := by
      rcases List.mem_cons.1 ((h x).1 (by simp)) with e | hx
      · exact e
      · rcases List.mem_cons.1 ((h y).2 (by simp)) with e | hy
        · exact e.symm
        · exact absurd (b1 x hx) (lt_asymm' (a1 y hy))
    subst e
    congr 1
    refine srt_mem a2 b2 fun c => ⟨fun hc => ?_, fun hc => ?_⟩
    · rcases List.mem_cons.1 ((h c).1 (List.mem_cons_of_mem _ hc)) with e | h'
      · subst e; exact absurd (a1 c hc) (lt_irr _)
      · exact h'
    · rcases List.mem_cons.1 ((h c).2 (List.mem_cons_of_mem _ hc)) with e | h'
      · subst e; exact absurd (b1 c hc) (lt_irr _)
      · exact h'
/-- two rows by rising keys in which the same is found are the same -/
theorem srt_ext {a b : List Chg} (ha : Srt a) (hb : Srt b) (h : ∀ k, look k a = look k b) : a = b :=
  srt_mem ha hb fun c => ⟨fun hc => look_mem ((h c.kb).symm.trans (look_of ha hc)), fun hc => look_mem ((h c.kb).trans (look_of hb hc))⟩

/-! ### the document's put, Make and Merge -/
def tidy (c : Chg) : Chg := if c.g then ⟨c.k, ⟨#[]⟩, true⟩ else c
theorem tidy_kb (c : Chg) : (tidy c).kb = c.kb := by unfold tidy; split <;> rfl
theorem tidy_ok (c : Chg) : Okc (tidy c) := by
  unfold tidy Okc
  split
  · intro _; rfl
  · intro h; contradiction
theorem tidy_id {c : Chg} (h : Okc c) : tidy c = c := by
  unfold tidy
  split
  · rename_i hg
    obtain ⟨k, v, g⟩ := c
    have := h hg
    simp only at this hg
    simp [this, hg]
  · rfl
def putC (c : Chg) : List Chg → List Chg
  | [] => [c]
  | y :: l => if y.kb < c.kb then y :: putC c l else if y.kb = c.kb then c :: l else c :: y :: l
theorem mem_putC {c x : Chg} : ∀ {l : List Chg}, x ∈ putC c l → x = c ∨ x ∈ l
  | [], h => by simp [putC] at h; exact .inl h
  | y :: l, h => by
    unfold putC at h
    split at h
    · rcases List.mem_cons.1 h with h | h
      · exact .inr (by simp [h])
      · rcases mem_putC h with h | h
        · exact .inl h
        · exact .inr (List.mem_cons_of_mem _ h)
    · split at h
      · rcases List.mem_cons.1 h with h | h
        · exact .inl h
        · exact .inr (List.mem_cons_of_mem _ h)
      · rcases List.mem_cons.1 h with h | h
        · exact .inl h
        · exact .inr h
theorem srt_put {c : Chg} : ∀ {l : List Chg}, Srt l → Srt (putC c l)
  | [], _ => by simp [putC, Srt]
  | y :: l, h => by
    obtain ⟨h1, h2⟩ := List.pairwise_cons.1 h
    unfold putC
    split
    · rename_i hlt
      refine List.pairwise_cons.2 ⟨fun x hx => ?_, srt_put h2⟩
      rcases mem_putC hx with rfl | hx
      · exact hlt
      · exact h1 x hx
    · rename_i hn
      split
      · rename_i he
        exact List.pairwise_cons.2 ⟨fun x hx => he ▸ h1 x hx, h2⟩
      · rename_i hne
        have hlt : c.kb < y.kb := by
          rcases lt_tri c.kb y.kb with h | h | h
          · exact h
          · exact absurd h.symm hne
          · exact absurd h hn
        refine List.pairwise_cons.2 ⟨fun x hx => ?_, h⟩
        rcases List.mem_cons.1 hx with rfl | hx
        · exact hlt
        · exact List.lt_trans hlt (h1 x hx)
theorem look_put (k : List UInt8) (c : Chg) : ∀ {l : List Chg}, Srt l → look k (putC c l) = if c.kb = k then some c else look k l
  | [], _ => by simp [putC, look_cons, look_nil]
  | y :: l, h => by
    obtain ⟨h1, h2⟩ := List.pairwise_cons.1 h
    have ih := look_put k c h2
    unfold putC
    split
    · rename_i hlt
      rw [look_cons, look_cons, ih]
      by_cases hc : c.kb = k
      · have : ¬ y.kb = k := fun e => by rw [e, hc] at hlt; exact lt_irr _ hlt
        simp [hc, this]
      · simp [hc]
    · rename_i hn
      split
      · rename_i he
        rw [look_cons, look_cons]
        by_cases hc : c.kb = k
        · simp [hc]
        · have : ¬ y.kb = k := fun e => hc (by rw [← he, e])
          simp [hc, this]
      · rw [look_cons]
def overL (a : List Chg) (l : List Chg) : List Chg := l.foldl (fun a c => putC (tidy c) a) a
def makeL (l : List Chg) : List Chg := overL [] l
def mergeL (rs : List (List Chg)) : List Chg := rs.foldr (fun r a => overL a r) []
theorem over_snoc (a l : List Chg) (c : Chg) : overL a (l ++ [c]) = putC (tidy c) (overL a l) := by simp [overL]
theorem over_take {a l : List Chg} {k : Nat} {c : Chg} (h : l[k]? = some c) : overL a (l.take (k + 1)) = putC (tidy c) (overL a (l.take k)) := by
  rw [List.take_add_one, h]
  exact over_snoc _ _ _
theorem srt_over : ∀ (l : List Chg) {a : List Chg}, Srt a → Srt (overL a l)
  | [], _, h => h
  | _ :: l, _, h => srt_over l (srt_put h)
theorem srt_make (l : List Chg) : Srt (makeL l) := srt_over l List.Pairwise.nil
theorem srt_merge : ∀ (rs : List (List Chg)), Srt (mergeL rs)
  | [] => List.Pairwise.nil
  | r :: rs => srt_over r (srt_merge rs)
theorem ok_put {c : Chg} {l : List Chg} (hc : Okc c) (h : ∀ x ∈ l, Okc x) : ∀ x ∈ putC c l, Okc x := fun x hx => by
  rcases mem_putC hx with rfl | hx
  · exact hc
  · exact h x hx
theorem ok_over : ∀ (l : List Chg) {a : List Chg}, (∀ x ∈ a, Okc x) → ∀ x ∈ overL a l, Okc x
  | [], _, h => h
  | c :: l, _, h => ok_over l (ok_put (tidy_ok c) h)
theorem run_make (l : List Chg) : Run (makeL l) := ⟨ok_over l (by simp), srt_make l⟩
theorem run_merge : ∀ (rs : List (List Chg)), Run (mergeL rs)
  | [] => Run.nil
  | r :: rs => ⟨ok_over r (run_merge rs).1, srt_merge (r :: rs)⟩
def lastOf (k : List UInt8) (l : List Chg) : Option Chg := (l.filter fun c => decide (c.kb = k)).getLast?
theorem lastOf_snoc (k : List UInt8) (l : List Chg) (c : Chg) : lastOf k (l ++ [c]) = if c.kb = k then some c else lastOf k l := by
  unfold lastOf
  rw [List.filter_append]
  by_cases h : c.kb = k <;> simp [h]
theorem snoc_ind {α : Type} {p : List α → Prop} (h0 : p []) (h1 : ∀ l c, p l → p (l ++ [c])) : ∀ l, p l := by
  intro l
  have : ∀ r : List α, p r.reverse := by
    intro r
    induction r with
    | nil => exact h0
    | cons c r ih => rw [List.reverse_cons]; exact h1 _ _ ih
  have h := this l.reverse
  rwa [List.reverse_reverse] at h
theorem look_over (k : List UInt8) {a : List Chg} (ha : Srt a) (l : List Chg) : look k (overL a l) = ((lastOf k l).map tidy).or (look k a) := by
  refine snoc_ind (p := fun l => look k (overL a l) = ((lastOf k l).map tidy).or (look k a)) rfl (fun l c ih => ?_) l
  rw [over_snoc, look_put _ _ (srt_over l ha), lastOf_snoc, tidy_kb, ih]
  by_cases h : c.kb = k <;> simp [h]
theorem look_make (k : List UInt8) (l : List Chg) : look k (makeL l) = (lastOf k l).map tidy := by
  have := look_over k (a := []) List.Pairwise.nil l
  rw [look_nil, Option.or_none] at this
  exact this
theorem lastOf_run {l : List Chg} (k : List UInt8) (h : Run l) : (lastOf k l).map tidy = look k l := by
  revert h
  refine snoc_ind (p := fun l => Run l → (lastOf k l).map tidy = look k l) (fun _ => rfl) (fun l c ih h => ?_) l
  have hl : Run l := ⟨fun x hx => h.1 x (List.mem_append_left _ hx), (srt_snoc.1 h.2).1⟩
  rw [lastOf_snoc, look_app, look_cons, look_nil, ← ih hl]
  by_cases hc : c.kb = k
  · have : look k l = none := look_none.2 fun b hb e => by
      have := (srt_snoc.1 h.2).2 b hb
      rw [e, hc] at this
      exact lt_irr _ this
    rw [ih hl, this]
    simp [hc, tidy_id (h.1 c (by simp))]
  · simp [hc]
def mlook (k : List UInt8) (rs : List (List Chg)) : Option Chg := rs.findSome? (look k)
theorem mlook_cons (k : List UInt8) (r : List Chg) (rs : List (List Chg)) : mlook k (r :: rs) = (look k r).or (mlook k rs) := by
  unfold mlook
  rw [List.findSome?_cons]
  cases look k r <;> rfl
theorem look_merge (k : List UInt8) : ∀ {rs : List (List Chg)}, (∀ r ∈ rs, Run r) → look k (mergeL rs) = mlook k rs
  | [], _ => rfl
  | r :: rs, h => by
    have ih := look_merge k (rs := rs) fun x hx => h x (List.mem_cons_of_mem _ hx)
    rw [mlook_cons, ← ih, ← lastOf_run k (h r (by simp))]
    exact look_over k (srt_merge rs) r
/-- a run is made of itself -/
theorem make_run {l : List Chg} (h : Run l) : makeL l = l := srt_ext (srt_make l) h.2 fun k => by rw [look_make, lastOf_run k h]
theorem merge_one {l : List Chg} (h : Run l) : mergeL [l] = l := make_run h

/-! ### the last of each key of a row that is sorted -/
def lasts : List Chg → List Chg
  | [] => []
  | [c] => [tidy c]
  | c :: d :: r => if d.kb = c.kb then lasts (d :: r) else tidy c :: lasts (d :: r)
theorem lasts_drop {l : List Chg} {i : Nat} {c : Chg} (hc : l[i]? = some c) : lasts (l.drop i) = (match l[i + 1]? with | some d => if d.kb = c.kb then [] else [tidy c] | none => [tidy c]) ++ lasts (l.drop (i + 1)) := by
  have hi := (List.getElem?_eq_some_iff.1 hc).1
  have e : l.drop i = c :: l.drop (i + 1) := by
    rw [List.drop_eq_getElem_cons hi]
    rw [List.getElem?_eq_getElem hi] at hc
    injection hc with hc
    rw [hc]
  rw [e]
  by_cases h : i + 1 < l.length
  · rw [List.drop_eq_getElem_cons h, List.getElem?_eq_getElem h, lasts]
    by_cases hk : (l[i + 1]).kb = c.kb <;> simp [hk]
  · have e2 : l.drop (i + 1) = [] := List.drop_eq_nil_of_le (by omega)
    rw [e2, List.getElem?_eq_none (by omega)]
    simp [lasts]
def Sle (l : List Chg) : Prop := l.Pairwise fun a b => ¬ b.kb < a.kb
theorem lasts_mem : ∀ {l : List Chg} {x : Chg}, x ∈ lasts l → ∃ y ∈ l, x = tidy y
  | [], x, h => by simp [lasts] at h
  | [c], x, h => by simp [lasts] at h; exact ⟨c, by simp, h⟩
  | c :: d :: r, x, h => by
    unfold lasts at h
    split at h
    · obtain ⟨y, hy, e⟩ := lasts_mem h
      exact ⟨y, List.mem_cons_of_mem _ hy, e⟩
    · rcases List.mem_cons.1 h with h | h
      · exact ⟨c, by simp, h⟩
      · obtain ⟨y, hy, e⟩ := lasts_mem h
        exact ⟨y, List.mem_cons_of_mem _ hy, e⟩
theorem lasts_spec : ∀ {l : List Chg}, Sle l → Srt (lasts l) ∧ ∀ k, look k (lasts l) = (lastOf k l).map tidy
  | [], _ => ⟨List.Pairwise.nil, fun _ => rfl⟩
  | [c], _ => ⟨List.pairwise_singleton _ _, fun k => by
      unfold lasts
      rw [look_cons, look_nil, tidy_kb]
      unfold lastOf
      by_cases h : c.kb = k <;> simp [h]⟩
  | c :: d :: r, h => by
    obtain ⟨h1, h2⟩ := List.pairwise_cons.1 h
    obtain ⟨ih1, ih2⟩ := lasts_spec h2
    have hd := h1 d (by simp)
    have hlast : ∀ k, ¬ c.kb = k → lastOf k (c :: d :: r) = lastOf k (d :: r) := fun k hk => by unfold lastOf; rw [List.filter_cons, if_neg (by simpa using hk)]
    unfold lasts
    by_cases he : d.kb = c.kb
    · rw [if_pos he]
      refine ⟨ih1, fun k => ?_⟩
      rw [ih2]
      by_cases hk : c.kb = k
      · unfold lastOf
        rw [List.filter_cons (x := c), if_pos (by simpa using hk), List.filter_cons, if_pos (by simpa using he.trans hk)]
        rfl
      · rw [hlast k hk]
    · rw [if_neg he]
      have hlt : c.kb < d.kb := by
        rcases lt_tri c.kb d.kb with h | h | h
        · exact h
        · exact absurd h.symm he
        · exact absurd h hd
      have hall : ∀ y ∈ d :: r, c.kb < y.kb := fun y hy => by
        rcases List.mem_cons.1 hy with rfl | hy
        · exact hlt
        · have hdy := (List.pairwise_cons.1 h2).1 y hy
          rcases lt_tri d.kb y.kb with h | h | h
          · exact List.lt_trans hlt h
          · exact h ▸ hlt
          · exact absurd h hdy
      refine ⟨List.pairwise_cons.2 ⟨fun x hx => ?_, ih1⟩, fun k => ?_⟩
      · obtain ⟨y, hy, rfl⟩ := lasts_mem hx
        rw [tidy_kb, tidy_kb]
        exact hall y hy
      · rw [look_cons, tidy_kb, ih2]
        by_cases hk : c.kb = k
        · rw [if_pos hk]
          unfold lastOf
          rw [List.filter_cons (x := c), if_pos (by simpa using hk)]
          have : (d :: r).filter (fun c => decide (c.kb = k)) = [] := List.filter_eq_nil_iff.2 fun y hy => by
            have := hall y hy
            simp only [decide_eq_true_eq]
            intro e
            rw [e, hk] at this
            exact lt_irr _ this
          rw [this]
          rfl
        · rw [if_neg hk, hlast k hk]
/-- sorted, so that those of each key stand as they stood: the last ones are the run that is made -/
theorem lasts_make {l xs : List Chg} (h : Sle xs) (hf : ∀ k, xs.filter (fun c => decide (c.kb = k)) = l.filter fun c => decide (c.kb = k)) : lasts xs = makeL l := by
  obtain ⟨h1, h2⟩ := lasts_spec h
  refine srt_ext h1 (srt_make l) fun k => ?_
  rw [h2, look_make]
  unfold lastOf
  rw [hf]

/-! ### cut by a range; what is there -/
def inR (lo hi : List UInt8) (c : Chg) : Bool := !decide (c.kb < lo) && (hi.isEmpty || decide (c.kb < hi))
def sliceL (lo hi : List UInt8) (l : List Chg) : List Chg := l.filter (inR lo hi)
def liveL (l : List Chg) : List Chg := l.filter fun c => !c.g
theorem run_slice {lo hi : List UInt8} {l : List Chg} (h : Run l) : Run (sliceL lo hi l) := ⟨fun c hc => h.1 c (List.mem_filter.1 hc).1, h.2.sublist List.filter_sublist⟩
end Go.Proofs.Yteioopcacpihpaa

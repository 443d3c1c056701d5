/- Layer 17 in plain words: answers, what is remembered of a client, of all clients; what is asked and kept, what two tables know. No condition. -/
import Derived.Test.YtdfhnjocpfjagaaGm
import Derived.Test.YtdfhnjocpfjagaaSpecTuple
namespace Go.Proofs.Ytdfhnjocpfjagaa
open Go.RowKit

/-- a reply without rows -/
structure Rp where
  code : Int
  there : Bool
  rc : List TVal
  id : Int
def Rp.zero : Rp := ⟨0, false, [], 0⟩
/-- may it be remembered? -/
def Rp.Right (r : Rp) : Prop := (0 ≤ r.code ∧ r.code ≤ 1099511627776) ∧ (0 ≤ r.id ∧ r.id ≤ 1099511627776) ∧ rowErr r.rc = 0
instance (r : Rp) : Decidable r.Right := by unfold Rp.Right; infer_instance
/-- what is remembered of a client: the floor, the answers -/
structure Pa where
  fl : Int
  E : List (Int × Rp)
def Pa.zero : Pa := ⟨0, []⟩
def riseT (f : Int) (p : Pa) : Pa := ⟨f, p.E.filter fun e => decide (f < e.1)⟩
def over (E : List (Int × Rp)) : Int := (numsG E).getD (E.length - 5) 0
def narrowT (p : Pa) : Pa := if 4 < p.E.length then riseT (over p.E) p else p
abbrev Tb := List (Int × Pa)
def getT (k : Int) (T : Tb) : Pa := (getG k T).getD Pa.zero
def badT (c n : Int) : Prop := c < 0 ∨ 1099511627776 < c ∨ n < 1 ∨ 1099511627776 < n
instance (c n : Int) : Decidable (badT c n) := by unfold badT; infer_instance
def lookT (c n : Int) (T : Tb) : Rp × Int :=
  if badT c n then (Rp.zero, 1)
  else if n ≤ (getT c T).fl then (Rp.zero, 12)
  else match getG n (getT c T).E with
    | some r => (r, 0)
    | none => (Rp.zero, 7)
/-- what Keep answers: m is how many rows the reply has -/
def keepE (c n : Int) (r : Rp) (m : Nat) (T : Tb) : Int :=
  if ¬ (r.Right ∧ m = 0) then 1 else if (lookT c n T).2 = 0 then 8 else if (lookT c n T).2 ≠ 7 then (lookT c n T).2 else 0
def putT (c n : Int) (r : Rp) (T : Tb) : Tb := putG c (narrowT ⟨(getT c T).fl, putG n r (getT c T).E⟩) T
def keepT (c n : Int) (r : Rp) (m : Nat) (T : Tb) : Tb := if keepE c n r m T = 0 then putT c n r T else T
/-- both answers' rows as one: of the same number a's -/
def unionA (a b : List (Int × Rp)) : List (Int × Rp) := a.foldl (fun l e => putG e.1 e.2 l) b
def joinP (a b : Pa) : Pa := narrowT (riseT (max a.fl b.fl) ⟨0, unionA a.E b.E⟩)
/-- what two tables know -/
def joinT (a b : Tb) : Tb := b.foldl (fun T e => putG e.1 (joinP (getT e.1 T) e.2) T) a

/-! ### what may stand in a table -/
structure PGood (p : Pa) : Prop where
  rise : RiseG p.E
  fl : 0 ≤ p.fl ∧ p.fl ≤ 1099511627776
  num : ∀ e ∈ p.E, (p.fl < e.1 ∧ e.1 ≤ 1099511627776) ∧ e.2.Right
  len : p.E.length ≤ 4
  full : 0 < p.fl → p.E.length = 4
structure TGood (T : Tb) : Prop where
  rise : RiseG T
  cl : ∀ e ∈ T, (0 ≤ e.1 ∧ e.1 ≤ 1099511627776) ∧ e.2.E ≠ [] ∧ PGood e.2
theorem PGood.zero : PGood Pa.zero := ⟨List.Pairwise.nil, ⟨Int.le_refl _, by decide⟩, by simp [Pa.zero], by simp [Pa.zero], fun h => absurd h (by simp [Pa.zero])⟩
theorem TGood.nil : TGood [] := ⟨List.Pairwise.nil, by simp⟩
theorem TGood.get {T : Tb} (h : TGood T) (k : Int) : PGood (getT k T) := by
  unfold getT
  cases hg : getG k T with
  | none => exact PGood.zero
  | some p => exact (h.cl _ (getG_mem hg)).2.2
theorem getT_nil (k : Int) : getT k [] = Pa.zero := rfl
theorem getT_put (c : Int) (p : Pa) (k : Int) (T : Tb) : getT k (putG c p T) = if c = k then p else getT k T := by
  unfold getT
  rw [getG_put]
  split <;> rfl
theorem riseT_rise {f : Int} {p : Pa} (h : RiseG p.E) : RiseG (riseT f p).E := List.Pairwise.filter _ h
theorem riseT_get (f n : Int) (p : Pa) : getG n (riseT f p).E = if f < n then getG n p.E else none := by
  unfold riseT
  rw [getG_filter (fun x => decide (f < x))]
  by_cases h : f < n <;> simp [h]
theorem narrowT_rise {p : Pa} (h : RiseG p.E) : RiseG (narrowT p).E := by
  unfold narrowT
  split
  · exact riseT_rise h
  · exact h
/-- of rising numbers just those behind number i are above it -/
theorem above_drop : ∀ (l : List (Int × Rp)) (i : Nat) (e : Int × Rp), RiseG l → l[i]? = some e → (l.filter fun x => decide (e.1 < x.1)) = l.drop (i + 1)
  | [], i, e, _, h => by simp at h
  | x :: l, 0, e, h, hi => by
    simp at hi
    subst hi
    obtain ⟨h1, h2⟩ := List.pairwise_cons.1 h
    rw [List.filter_cons]
    simp only [Int.lt_irrefl, decide_false, Bool.false_eq_true, if_false, List.drop_succ_cons, List.drop_zero]
    exact List.filter_eq_self.2 fun q hq => by simp; exact h1 q hq
  | x :: l, i + 1, e, h, hi => by
    obtain ⟨h1, h2⟩ := List.pairwise_cons.1 h
    have hi' : l[i]? = some e := by simpa using hi
    have := h1 e (List.mem_of_getElem? hi')
    rw [List.filter_cons]
    have hf : decide (e.1 < x.1) = false := decide_eq_false (by omega)
    rw [hf]
    simp only [Bool.false_eq_true, if_false, List.drop_succ_cons]
    exact above_drop l i e h2 hi'
theorem over_at {E : List (Int × Rp)} (h : 4 < E.length) : ∃ e, E[E.length - 5]? = some e ∧ over E = e.1 := by
  obtain ⟨e, he⟩ : ∃ e, E[E.length - 5]? = some e := ⟨_, List.getElem?_eq_getElem (by omega)⟩
  refine ⟨e, he, ?_⟩
  unfold over numsG
  rw [List.getD_eq_getElem?_getD, List.getElem?_map, he]
  rfl
theorem narrowT_drop {p : Pa} (h : RiseG p.E) (hl : 4 < p.E.length) : (narrowT p).E = p.E.drop (p.E.length - 4) := by
  obtain ⟨e, he, ho⟩ := over_at hl
  unfold narrowT
  rw [if_pos hl, ho]
  unfold riseT
  simp only
  rw [above_drop _ _ _ h he]
  congr 1
  omega
theorem narrowT_good {p : Pa} (h1 : RiseG p.E) (h2 : 0 ≤ p.fl ∧ p.fl ≤ 1099511627776) (h3 : ∀ e ∈ p.E, (p.fl < e.1 ∧ e.1 ≤ 1099511627776) ∧ e.2.Right) (h4 : 0 < p.fl → 4 ≤ p.E.length) : PGood (narrowT p) ∧ (p.E ≠ [] → (narrowT p).E ≠ []) := by
  by_cases hl : 4 < p.E.length
  · obtain ⟨e, he, ho⟩ := over_at hl
    have hd := narrowT_drop h1 hl
    have hlen : (narrowT p).E.length = 4 := by rw [hd, List.length_drop]; omega
    have hf : (narrowT p).fl = e.1 := by unfold narrowT; rw [if_pos hl, ho]; rfl
    have hem := h3 e (List.mem_of_getElem? he)
    refine ⟨⟨narrowT_rise h1, by omega, fun x hx => ?_, by omega, fun _ => hlen⟩, fun _ h => by rw [h] at hlen; cases hlen⟩
    have hx2 : x ∈ p.E := by rw [hd] at hx; exact List.mem_of_mem_drop hx
    refine ⟨⟨?_, (h3 x hx2).1.2⟩, (h3 x hx2).2⟩
    rw [hf]
    unfold narrowT at hx
    rw [if_pos hl, ho] at hx
    have := (List.mem_filter.1 hx).2
    simpa using this
  · have e1 : narrowT p = p := by unfold narrowT; rw [if_neg hl]
    rw [e1]
    exact ⟨⟨h1, h2, h3, by omega, fun h => by have := h4 h; omega⟩, id⟩
theorem lookT_ok {c n : Int} {T : Tb} (h : (lookT c n T).2 = 7) : (0 ≤ c ∧ c ≤ 1099511627776) ∧ (1 ≤ n ∧ n ≤ 1099511627776) ∧ (getT c T).fl < n ∧ getG n (getT c T).E = none := by
  unfold lookT at h
  split at h
  · cases h
  · next h1 =>
    unfold badT at h1
    split at h
    · cases h
    · next h2 =>
      split at h
      · cases h
      · next h3 => exact ⟨by omega, by omega, by omega, h3⟩
theorem keepE_ok {c n : Int} {r : Rp} {m : Nat} {T : Tb} (h : keepE c n r m T = 0) : r.Right ∧ m = 0 ∧ (lookT c n T).2 = 7 := by
  unfold keepE at h
  split at h
  · cases h
  · next h1 =>
    split at h
    · cases h
    · next h2 =>
      split at h
      · next h3 => exact absurd h h2
      · next h3 => exact ⟨(Decidable.not_not.1 h1).1, (Decidable.not_not.1 h1).2, by omega⟩
theorem putG_ne {α : Type} (k : Int) (a : α) (l : List (Int × α)) : putG k a l ≠ [] := fun h => by
  have := getG_put k a k l
  rw [h, if_pos rfl] at this
  cases this
theorem putT_good {c n : Int} {r : Rp} {T : Tb} (h : TGood T) (hr : r.Right) (hk : (lookT c n T).2 = 7) : TGood (putT c n r T) := by
  obtain ⟨h1, h2, h3, h4⟩ := lookT_ok hk
  have hg := h.get c
  refine ⟨riseG_put h.rise, fun e he => ?_⟩
  rcases mem_putG.1 he with rfl | ⟨he, -⟩
  · obtain ⟨g1, g2⟩ := narrowT_good (p := ⟨(getT c T).fl, putG n r (getT c T).E⟩) (riseG_put hg.rise) hg.fl (fun e he => by
      rcases mem_putG.1 he with rfl | ⟨he, -⟩
      · exact ⟨⟨h3, h2.2⟩, hr⟩
      · exact hg.num e he) (fun hp => by
      have := hg.full hp
      show 4 ≤ (putG n r (getT c T).E).length
      unfold putG
      rw [insG_len, delG_none h4]
      omega)
    exact ⟨h1, g2 (putG_ne _ _ _), g1⟩
  · exact h.cl e he
theorem keepT_good {c n : Int} {r : Rp} {m : Nat} {T : Tb} (h : TGood T) : TGood (keepT c n r m T) := by
  unfold keepT
  split
  · next hk =>
    obtain ⟨h1, h2, h3⟩ := keepE_ok hk
    exact putT_good h h1 h3
  · exact h
theorem unionA_rise : ∀ (a b : List (Int × Rp)), RiseG b → RiseG (unionA a b)
  | [], _, h => h
  | _ :: a, _, h => unionA_rise a _ (riseG_put h)
theorem unionA_get (n : Int) : ∀ (a b : List (Int × Rp)), RiseG a → getG n (unionA a b) = (getG n a).or (getG n b)
  | [], b, _ => by simp [unionA, getG_nil]
  | e :: a, b, h => by
    obtain ⟨h1, h2⟩ := List.pairwise_cons.1 h
    have ih := unionA_get n a (putG e.1 e.2 b) h2
    have e0 : unionA (e :: a) b = unionA a (putG e.1 e.2 b) := rfl
    rw [e0, ih, getG_put, getG_cons]
    by_cases hn : e.1 = n
    · have : getG n a = none := getG_none.2 fun q hq => by have := h1 q hq; omega
      rw [this, if_pos hn, if_pos hn]
      rfl
    · rw [if_neg hn, if_neg hn]
theorem len_of_sub {α : Type} : ∀ {a b : List (Int × α)}, RiseG a → RiseG b → (∀ n, (getG n a).isSome → (getG n b).isSome) → a.length ≤ b.length
  | [], _, _, _, _ => Nat.zero_le _
  | e :: a, b, ha, hb, h => by
    obtain ⟨h1, h2⟩ := List.pairwise_cons.1 ha
    obtain ⟨x, hx⟩ := Option.isSome_iff_exists.1 (h e.1 (by rw [getG_cons, if_pos rfl]; rfl))
    have hl := delG_some_len hb hx
    have := len_of_sub h2 (riseG_del hb e.1) fun n hn => by
      obtain ⟨y, hy⟩ := Option.isSome_iff_exists.1 hn
      have hne := h1 _ (getG_mem hy)
      simp only at hne
      rw [getG_del, if_neg (by omega)]
      exact h n (by rw [getG_cons, if_neg (by omega)]; exact hn)
    rw [List.length_cons]
    omega
theorem joinP_good {a b : Pa} (ha : PGood a) (hb : PGood b) : PGood (joinP a b) ∧ ((a.E ≠ [] ∨ b.E ≠ []) → (joinP a b).E ≠ []) := by
  have hU := unionA_rise a.E b.E hb.rise
  have hget := fun n => unionA_get n a.E b.E ha.rise
  have hR := riseT_rise (f := max a.fl b.fl) (p := ⟨0, unionA a.E b.E⟩) hU
  have hsub : ∀ (p : Pa), (p = a ∨ p = b) → p.fl = max a.fl b.fl → p.E.length ≤ (riseT (max a.fl b.fl) ⟨0, unionA a.E b.E⟩).E.length := by
    intro p hp hf
    have hpg : PGood p := by rcases hp with rfl | rfl <;> assumption
    refine len_of_sub hpg.rise hR fun n hn => ?_
    obtain ⟨x, hx⟩ := Option.isSome_iff_exists.1 hn
    have := (hpg.num _ (getG_mem hx)).1.1
    rw [riseT_get, if_pos (by simp only at this; omega), hget]
    rcases hp with rfl | rfl
    · rw [hx]; rfl
    · rw [hx]; cases getG n a.E <;> rfl
  have hfull : 0 < max a.fl b.fl → 4 ≤ (riseT (max a.fl b.fl) ⟨0, unionA a.E b.E⟩).E.length := by
    intro h0
    by_cases hab : a.fl ≤ b.fl
    · have := hsub b (.inr rfl) (by omega)
      have := hb.full (by omega)
      omega
    · have := hsub a (.inl rfl) (by omega)
      have := ha.full (by omega)
      omega
  obtain ⟨g1, g2⟩ := narrowT_good (p := riseT (max a.fl b.fl) ⟨0, unionA a.E b.E⟩) hR (by
      have h1 := ha.fl; have h2 := hb.fl
      show 0 ≤ max a.fl b.fl ∧ max a.fl b.fl ≤ 1099511627776
      omega) (fun e he => by
      obtain ⟨he, hf⟩ := List.mem_filter.1 he
      have hg := getG_of hU (k := e.1) (a := e.2) he
      rw [hget] at hg
      refine ⟨⟨of_decide_eq_true hf, ?_⟩, ?_⟩
      · cases ha' : getG e.1 a.E with
        | some x => exact (ha.num _ (getG_mem ha')).1.2
        | none =>
          rw [ha'] at hg
          exact (hb.num _ (getG_mem hg)).1.2
      · cases ha' : getG e.1 a.E with
        | some x =>
          rw [ha'] at hg
          cases hg
          exact (ha.num _ (getG_mem ha')).2
        | none =>
          rw [ha'] at hg
          exact (hb.num _ (getG_mem hg)).2) hfull
  refine ⟨g1, fun h => g2 fun h0 => ?_⟩
  have h00 := congrArg List.length h0
  by_cases hp : 0 < max a.fl b.fl
  · have := hfull hp
    rw [h00] at this
    simp at this
  · have h1 := ha.fl
    have h2 := hb.fl
    have hle : ∀ (p : Pa), (p = a ∨ p = b) → p.E ≠ [] → False := by
      intro p hp' hne
      have := hsub p hp' (by rcases hp' with rfl | rfl <;> omega)
      rw [h00] at this
      exact hne (List.eq_nil_of_length_eq_zero (by simpa using this))
    rcases h with h | h
    · exact hle a (.inl rfl) h
    · exact hle b (.inr rfl) h
/-- joined with nothing a client's answers stay -/
theorem joinP_zero {p : Pa} (h : PGood p) : joinP p Pa.zero = p := by
  have h1 : unionA p.E Pa.zero.E = p.E := extG (unionA_rise _ _ List.Pairwise.nil) h.rise fun n => by
    rw [unionA_get n _ _ h.rise]
    show (getG n p.E).or none = _
    simp
  have h2 : max p.fl Pa.zero.fl = p.fl := by have := h.fl; show max p.fl 0 = p.fl; omega
  have h3 : riseT p.fl ⟨0, p.E⟩ = p := by
    unfold riseT
    have : p.E.filter (fun e => decide (p.fl < e.1)) = p.E := List.filter_eq_self.2 fun e he => by simp; exact (h.num e he).1.1
    simp only [this]
  unfold joinP
  rw [h1, h2, h3]
  unfold narrowT
  have := h.len
  rw [if_neg (by omega)]
theorem joinT_get (k : Int) : ∀ (b a : Tb), RiseG b → getT k (joinT a b) = match getG k b with | some p => joinP (getT k a) p | none => getT k a
  | [], a, _ => rfl
  | e :: b, a, h => by
    obtain ⟨h1, h2⟩ := List.pairwise_cons.1 h
    have ih := joinT_get k b (putG e.1 (joinP (getT e.1 a) e.2) a) h2
    have e0 : joinT a (e :: b) = joinT (putG e.1 (joinP (getT e.1 a) e.2) a) b := rfl
    rw [e0, ih, getT_put, getG_cons]
    by_cases hn : e.1 = k
    · have : getG k b = none := getG_none.2 fun q hq => by have := h1 q hq; omega
      rw [this, if_pos hn, if_pos hn, hn]
    · rw [if_neg hn, if_neg hn]
theorem joinT_good : ∀ (b a : Tb), TGood a → TGood b → TGood (joinT a b)
  | [], a, ha, _ => ha
  | e :: b, a, ha, hb => by
    obtain ⟨h1, h2⟩ := List.pairwise_cons.1 hb.rise
    have e0 : joinT a (e :: b) = joinT (putG e.1 (joinP (getT e.1 a) e.2) a) b := rfl
    rw [e0]
    obtain ⟨c1, c2, c3⟩ := hb.cl e (by simp)
    refine joinT_good b _ ⟨riseG_put ha.rise, fun x hx => ?_⟩ ⟨h2, fun x hx => hb.cl x (by simp [hx])⟩
    rcases mem_putG.1 hx with rfl | ⟨hx, -⟩
    · obtain ⟨g1, g2⟩ := joinP_good (ha.get e.1) c3
      exact ⟨c1, g2 (.inr c2), g1⟩
    · exact ha.cl x hx
/-- tables that may be, which give the same of each client, are the same -/
theorem tb_ext {a b : Tb} (ha : TGood a) (hb : TGood b) (h : ∀ k, getT k a = getT k b) : a = b := by
  refine extG ha.rise hb.rise fun k => ?_
  have hk := h k
  unfold getT at hk
  cases h1 : getG k a with
  | none =>
    cases h2 : getG k b with
    | none => rfl
    | some q =>
      rw [h1, h2] at hk
      have := (hb.cl _ (getG_mem h2)).2.1
      simp only [Option.getD_none, Option.getD_some] at hk
      rw [← hk] at this
      exact absurd rfl this
  | some p =>
    cases h2 : getG k b with
    | none =>
      rw [h1, h2] at hk
      have := (ha.cl _ (getG_mem h1)).2.1
      simp only [Option.getD_none, Option.getD_some] at hk
      rw [hk] at this
      exact absurd rfl this
    | some q =>
      rw [h1, h2] at hk
      simp only [Option.getD_some] at hk
      rw [hk]
theorem joinT_len : ∀ (b a : Tb), (joinT a b).length ≤ a.length + b.length
  | [], a => by simp [joinT]
  | e :: b, a => by
    have ih := joinT_len b (putG e.1 (joinP (getT e.1 a) e.2) a)
    have := putG_len e.1 (joinP (getT e.1 a) e.2) a
    have e0 : joinT a (e :: b) = joinT (putG e.1 (joinP (getT e.1 a) e.2) a) b := rfl
    rw [e0, List.length_cons]
    omega
theorem keepT_len (c n : Int) (r : Rp) (m : Nat) (T : Tb) : (keepT c n r m T).length ≤ T.length + 1 := by
  unfold keepT
  split
  · exact putG_len _ _ _
  · omega
end Go.Proofs.Ytdfhnjocpfjagaa

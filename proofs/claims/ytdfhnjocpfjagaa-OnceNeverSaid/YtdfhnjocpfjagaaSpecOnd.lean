/- Layer 17 in plain words: what a call leaves of other clients, and of numbers that were answered. No condition. -/
import Derived.Test.YtdfhnjocpfjagaaSpecOnce
namespace Go.Proofs.Ytdfhnjocpfjagaa
open Go.RowKit

/-- what is kept of one client leaves what is remembered of others -/
theorem keep_other {c n k : Int} {r : Rp} {m : Nat} {T : Tb} (h : c ≠ k) : getT k (keepT c n r m T) = getT k T := by
  unfold keepT
  split
  · unfold putT
    rw [getT_put, if_neg h]
  · rfl
theorem look_same {c n : Int} {T T' : Tb} (h : getT c T = getT c T') : lookT c n T = lookT c n T' := by unfold lookT; rw [h]
theorem keep_same {c n : Int} {r : Rp} {m : Nat} {T T' : Tb} (h : getT c T = getT c T') : keepE c n r m T = keepE c n r m T' ∧ getT c (keepT c n r m T) = getT c (keepT c n r m T') := by
  have e : keepE c n r m T = keepE c n r m T' := by unfold keepE; rw [look_same h]
  refine ⟨e, ?_⟩
  unfold keepT
  rw [e]
  split
  · unfold putT
    rw [getT_put, getT_put, if_pos rfl, if_pos rfl, h]
  · exact h
theorem keep_same_at {c n k : Int} {r : Rp} {m : Nat} {T T' : Tb} (hc : c = k) (h : getT k T = getT k T') : keepE c n r m T = keepE c n r m T' ∧ getT k (keepT c n r m T) = getT k (keepT c n r m T') := by
  subst hc
  exact keep_same h
theorem look_known {c n : Int} {T : Tb} {r : Rp} (h : TGood T) (hg : getG n (getT c T).E = some r) : lookT c n T = (r, 0) := by
  have hP := h.get c
  have h1 := (hP.num _ (getG_mem hg)).1
  have hc : 0 ≤ c ∧ c ≤ 1099511627776 := by
    unfold getT at hg
    cases hgc : getG c T with
    | none => rw [hgc] at hg; cases hg
    | some p => exact (h.cl _ (getG_mem hgc)).1
  simp only at h1
  have h2 := hP.fl
  unfold lookT
  rw [if_neg (by unfold badT; omega), if_neg (by omega), hg]
/-- a number that is never new again: too old, or remembered -/
def kn (n : Int) (p : Pa) : Prop := n ≤ p.fl ∨ (getG n p.E).isSome
theorem kn_rise {n f : Int} {p : Pa} (h : kn n p) (hf : p.fl ≤ f) : kn n (riseT f p) := by
  by_cases hn : n ≤ f
  · exact .inl hn
  · refine .inr ?_
    rw [riseT_get, if_pos (by omega)]
    rcases h with h | h
    · omega
    · exact h
theorem kn_narrow {n : Int} {p : Pa} (h : kn n p) (hp : ∀ e ∈ p.E, p.fl ≤ e.1) : kn n (narrowT p) := by
  by_cases hl : 4 < p.E.length
  · obtain ⟨e, he, ho⟩ := over_at hl
    unfold narrowT
    rw [if_pos hl, ho]
    exact kn_rise h (hp e (List.mem_of_getElem? he))
  · unfold narrowT
    rw [if_neg hl]
    exact h
theorem kn_putT {c n m k : Int} {r : Rp} {T : Tb} (hT : TGood T) (hk : (lookT c m T).2 = 7) (h : kn n (getT k T) ∨ (c = k ∧ m = n)) : kn n (getT k (putT c m r T)) := by
  unfold putT
  rw [getT_put]
  by_cases hc : c = k
  · subst hc
    rw [if_pos rfl]
    have hP := hT.get c
    have hl := (lookT_ok hk).2.2.1
    refine kn_narrow ?_ fun e he => ?_
    · rcases h with h | ⟨-, rfl⟩
      · rcases h with h | h
        · exact .inl h
        · refine .inr ?_
          rw [getG_put]
          split
          · rfl
          · exact h
      · exact .inr (by rw [getG_put, if_pos rfl]; rfl)
    · rcases mem_putG.1 he with rfl | ⟨he, -⟩
      · show (getT c T).fl ≤ m; omega
      · have := (hP.num e he).1.1
        show (getT c T).fl ≤ e.1; omega
  · rw [if_neg hc]
    rcases h with h | ⟨h, -⟩
    · exact h
    · exact absurd h hc
theorem kn_keep {c n m k : Int} {r : Rp} {q : Nat} {T : Tb} (hT : TGood T) (h : kn n (getT k T)) : kn n (getT k (keepT c m r q T)) := by
  unfold keepT
  split
  · next he => exact kn_putT hT (keepE_ok he).2.2 (.inl h)
  · exact h
theorem kn_new {c n : Int} {r : Rp} {q : Nat} {T : Tb} (hT : TGood T) (he : keepE c n r q T = 0) : kn n (getT c (keepT c n r q T)) := by
  unfold keepT
  rw [if_pos he]
  exact kn_putT hT (keepE_ok he).2.2 (.inr ⟨rfl, rfl⟩)
theorem kn_join {n : Int} {a b : Pa} (ha : PGood a) (h : kn n a ∨ kn n b) : kn n (joinP a b) := by
  refine kn_narrow ?_ fun e he => ?_
  · by_cases hn : n ≤ max a.fl b.fl
    · exact .inl hn
    · refine .inr ?_
      rw [riseT_get, if_pos (by omega), unionA_get n _ _ ha.rise]
      rcases h with (h | h) | (h | h)
      · omega
      · cases hx : getG n a.E with
        | none => rw [hx] at h; cases h
        | some x => rfl
      · omega
      · cases hx : getG n a.E with
        | none => exact h
        | some x => rfl
  · have := (List.mem_filter.1 he).2
    have := of_decide_eq_true this
    show max a.fl b.fl ≤ e.1
    omega
theorem kn_joinT {n k : Int} {a b : Tb} (ha : TGood a) (hb : TGood b) (h : kn n (getT k a) ∨ kn n (getT k b)) : kn n (getT k (joinT a b)) := by
  rw [joinT_get k b a hb.rise]
  cases hg : getG k b with
  | none =>
    rcases h with h | h
    · exact h
    · unfold getT at h
      rw [hg] at h
      rcases h with h | h
      · have := (ha.get k).fl
        exact .inl (by show n ≤ (getT k a).fl; simp only [Option.getD_none, Pa.zero] at h; omega)
      · cases h
  | some p =>
    refine kn_join (ha.get k) ?_
    unfold getT at h ⊢
    rw [hg] at h
    exact h
/-- such a number, of a client that may be, is remembered or too old -/
theorem kn_look {c n : Int} {T : Tb} (hb : ¬ badT c n) (h : kn n (getT c T)) : (lookT c n T).2 = 0 ∨ (lookT c n T).2 = 12 := by
  unfold lookT
  rw [if_neg hb]
  split
  · exact .inr rfl
  · next h1 =>
    rcases h with h | h
    · exact absurd h h1
    · cases hx : getG n (getT c T).E with
      | none => rw [hx] at h; cases h
      | some x => exact .inl rfl
theorem keep_notBad {c n : Int} {r : Rp} {q : Nat} {T : Tb} (he : keepE c n r q T = 0) : ¬ badT c n := by
  obtain ⟨h1, h2, -, -⟩ := lookT_ok (keepE_ok he).2.2
  unfold badT
  omega
end Go.Proofs.Ytdfhnjocpfjagaa

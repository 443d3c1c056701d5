/- The document's table of layer 17 in plain words, and that it says what the clients' pasts say. No condition. -/
import Derived.Test.YtdfhnjocpfjagaaObA
namespace Go.Proofs.Ytdfhnjocpfjagaa
open Go.RowKit

abbrev On := Int × Int × Rp
def Rf.nil : Rf := ⟨[], []⟩
def flR (c : Int) (Q : List (Int × Int)) : Int := (getG c Q).getD 0
/-- a client's answers -/
def sub (c : Int) (L : List On) : List (Int × Rp) := (L.filter fun e => decide (e.1 = c)).map (·.2)
def lexB (a b : On) : Bool := decide (a.1 < b.1) || (decide (a.1 = b.1) && decide (a.2.1 < b.2.1))
def Lex (L : List On) : Prop := L.Pairwise fun a b => a.1 < b.1 ∨ (a.1 = b.1 ∧ a.2.1 < b.2.1)
def lookR (c n : Int) (R : Rf) : Rp × Int :=
  if badT c n then (Rp.zero, 1)
  else if n ≤ flR c R.Q then (Rp.zero, 12)
  else match getG n (sub c R.L) with
    | some r => (r, 0)
    | none => (Rp.zero, 7)
def keepFl (c : Int) (Q : List (Int × Int)) (e : On) : Bool := decide (e.1 ≠ c) || decide (flR c Q < e.2.1)
def raiseR (c f : Int) (R : Rf) : Rf :=
  if flR c R.Q < f then ⟨R.L.filter (keepFl c (putG c f R.Q)), putG c f R.Q⟩ else ⟨R.L.filter (keepFl c R.Q), R.Q⟩
def insR (x : On) : List On → List On
  | [] => [x]
  | e :: l => if lexB e x then e :: insR x l else x :: e :: l
def putR (x : On) (R : Rf) : Rf :=
  if 4 < (sub x.1 (insR x R.L)).length then raiseR x.1 (over (sub x.1 (insR x R.L))) ⟨insR x R.L, R.Q⟩ else ⟨insR x R.L, R.Q⟩
def keepRE (c n : Int) (r : Rp) (m : Nat) (R : Rf) : Int :=
  if badT c n ∨ ¬ (r.Right ∧ m = 0) then 1 else if (lookR c n R).2 = 0 then 8 else if (lookR c n R).2 = 12 then 12 else 0
def keepR (c n : Int) (r : Rp) (m : Nat) (R : Rf) : Rf := if keepRE c n r m R = 0 then putR (c, n, r) R else R

theorem sub_nil (c : Int) : sub c [] = [] := rfl
theorem sub_cons (c : Int) (e : On) (L : List On) : sub c (e :: L) = if e.1 = c then e.2 :: sub c L else sub c L := by
  unfold sub
  rw [List.filter_cons]
  by_cases h : e.1 = c <;> simp [h]
theorem sub_app (c : Int) (a b : List On) : sub c (a ++ b) = sub c a ++ sub c b := by unfold sub; rw [List.filter_append, List.map_append]
theorem sub_mem {c : Int} {L : List On} {p : Int × Rp} : p ∈ sub c L ↔ (c, p.1, p.2) ∈ L := by
  unfold sub
  rw [List.mem_map]
  constructor
  · rintro ⟨e, he, rfl⟩
    obtain ⟨h1, h2⟩ := List.mem_filter.1 he
    have : e.1 = c := of_decide_eq_true h2
    rw [← this]
    exact h1
  · intro h
    exact ⟨_, List.mem_filter.2 ⟨h, by simp⟩, rfl⟩
theorem sub_rise {L : List On} (h : Lex L) (c : Int) : RiseG (sub c L) := by
  unfold sub RiseG
  rw [List.pairwise_map]
  refine (List.Pairwise.filter _ h).imp_of_mem fun {a b} ha hb hab => ?_
  have h1 : a.1 = c := of_decide_eq_true (List.mem_filter.1 ha).2
  have h2 : b.1 = c := of_decide_eq_true (List.mem_filter.1 hb).2
  rcases hab with h3 | h3
  · omega
  · exact h3.2
theorem insG_split {n : Int} {r : Rp} : ∀ {a b : List (Int × Rp)}, (∀ e ∈ a, e.1 < n) → (∀ e ∈ b, n < e.1) → insG n r (a ++ b) = a ++ (n, r) :: b
  | [], [], _, _ => rfl
  | [], e :: b, _, hb => by
    have := hb e (by simp)
    show (if n < e.1 then (n, r) :: e :: b else e :: insG n r b) = _
    rw [if_pos this]
    rfl
  | e :: a, b, ha, hb => by
    have := ha e (by simp)
    have ih := insG_split (a := a) (b := b) (n := n) (r := r) (fun x hx => ha x (by simp [hx])) hb
    show (if n < e.1 then (n, r) :: e :: (a ++ b) else e :: insG n r (a ++ b)) = _
    rw [if_neg (by omega), ih]
    rfl
theorem lexB_iff (a b : On) : lexB a b = true ↔ a.1 < b.1 ∨ (a.1 = b.1 ∧ a.2.1 < b.2.1) := by simp [lexB]
theorem insR_mem {x e : On} : ∀ {L : List On}, e ∈ insR x L ↔ e = x ∨ e ∈ L
  | [] => by simp [insR]
  | y :: l => by
    unfold insR
    split
    · simp only [List.mem_cons, insR_mem (L := l)]
      constructor
      · rintro (h | h | h) <;> simp [h]
      · rintro (h | h | h) <;> simp [h]
    · simp
theorem insR_lex {x : On} : ∀ {L : List On}, Lex L → (∀ e ∈ L, ¬ (e.1 = x.1 ∧ e.2.1 = x.2.1)) → Lex (insR x L)
  | [], _, _ => by simp [insR, Lex]
  | y :: l, h, hx => by
    obtain ⟨h1, h2⟩ := List.pairwise_cons.1 h
    have hy := hx y (by simp)
    unfold insR
    split
    · next hl =>
      refine List.pairwise_cons.2 ⟨fun q hq => ?_, insR_lex h2 fun e he => hx e (by simp [he])⟩
      rcases insR_mem.1 hq with rfl | hq
      · exact (lexB_iff _ _).1 hl
      · exact h1 q hq
    · next hl =>
      have hl' : ¬ (y.1 < x.1 ∨ (y.1 = x.1 ∧ y.2.1 < x.2.1)) := fun e => hl ((lexB_iff _ _).2 e)
      refine List.pairwise_cons.2 ⟨fun q hq => ?_, h⟩
      rcases List.mem_cons.1 hq with rfl | hq
      · omega
      · have := h1 q hq; omega
/-- behind index i nothing stands ahead of x -/
theorem insR_at {x : On} : ∀ {L : List On} {i : Nat}, Lex L → (∀ e ∈ L.take i, lexB e x = true) → (∀ e, L[i]? = some e → lexB e x = false) → insR x L = L.take i ++ x :: L.drop i
  | [], i, _, _, _ => by simp [insR]
  | y :: l, 0, _, _, h2 => by
    have := h2 y rfl
    simp [insR, this]
  | y :: l, i + 1, h, h1, h2 => by
    have hy := h1 y (by simp)
    have ih := insR_at (L := l) (i := i) (List.pairwise_cons.1 h).2 (fun e he => h1 e (by simp [he])) (fun e he => h2 e (by simpa using he))
    simp [insR, hy, ih]
theorem sub_ins {x : On} {L : List On} (h : Lex L) (hx : getG x.2.1 (sub x.1 L) = none) (c : Int) : sub c (insR x L) = if c = x.1 then putG x.2.1 x.2.2 (sub c L) else sub c L := by
  induction L with
  | nil =>
    rw [insR, sub_cons, sub_nil]
    by_cases hc : x.1 = c
    · rw [if_pos hc, if_pos hc.symm]; rfl
    · rw [if_neg hc, if_neg (fun e => hc e.symm)]
  | cons y l ih =>
    obtain ⟨h1, h2⟩ := List.pairwise_cons.1 h
    have hxl : getG x.2.1 (sub x.1 l) = none := by
      rw [sub_cons] at hx
      split at hx
      · rw [getG_cons] at hx
        split at hx
        · cases hx
        · exact hx
      · exact hx
    have ih := ih h2 hxl
    unfold insR
    split
    · next hl =>
      have hl := (lexB_iff _ _).1 hl
      rw [sub_cons, ih, sub_cons]
      by_cases hc : c = x.1
      · subst hc
        rw [if_pos rfl, if_pos rfl]
        by_cases hy : y.1 = x.1
        · rw [if_pos hy, if_pos hy]
          have hlt : y.2.1 < x.2.1 := by omega
          unfold putG delG
          rw [List.filter_cons]
          have hne : y.2.1 ≠ x.2.1 := by omega
          simp only [hne, decide_false, Bool.not_false, if_true]
          show _ = (if x.2.1 < y.2.1 then _ else y.2 :: insG x.2.1 x.2.2 _)
          rw [if_neg (by omega)]
        · rw [if_neg hy, if_neg hy]
      · rw [if_neg hc, if_neg hc]
    · next hl =>
      have hl' : ¬ (y.1 < x.1 ∨ (y.1 = x.1 ∧ y.2.1 < x.2.1)) := fun e => hl ((lexB_iff _ _).2 e)
      rw [sub_cons]
      by_cases hc : c = x.1
      · subst hc
        rw [if_pos rfl, if_pos rfl]
        unfold putG
        rw [delG_none hx]
        have := insG_split (n := x.2.1) (r := x.2.2) (a := []) (b := sub x.1 (y :: l)) (by simp) (fun e he => by
          have hm := sub_mem.1 he
          rcases List.mem_cons.1 hm with e0 | hm
          · have e1 := congrArg (fun q : On => q.1) e0
            have e2 := congrArg (fun q : On => q.2.1) e0
            simp only at e1 e2
            have hne : e.1 ≠ x.2.1 := fun e3 => by
              have := getG_none.1 hx e he
              exact this e3
            omega
          · have := h1 _ hm
            simp only at this
            omega)
        simpa using this.symm
      · rw [if_neg (fun e => hc e.symm), if_neg hc]
theorem sub_filter (c k : Int) (Q : List (Int × Int)) (L : List On) : sub k (L.filter (keepFl c Q)) = if k = c then (sub c L).filter (fun e => decide (flR c Q < e.1)) else sub k L := by
  induction L with
  | nil => simp [sub_nil]
  | cons y l ih =>
    rw [List.filter_cons, sub_cons, sub_cons]
    by_cases hk : k = c
    · subst hk
      rw [if_pos rfl] at ih ⊢
      by_cases hy : y.1 = k
      · rw [if_pos hy, List.filter_cons]
        by_cases hf : flR k Q < y.2.1
        · have : keepFl k Q y = true := by simp [keepFl, hf]
          rw [if_pos this, sub_cons, if_pos hy, ih]
          simp [hf]
        · have : keepFl k Q y = false := by simp [keepFl, hy]; omega
          rw [this]
          simp only [Bool.false_eq_true, if_false, ih]
          simp [hf]
      · have : keepFl k Q y = true := by simp [keepFl, hy]
        rw [if_pos this, sub_cons, if_neg hy, if_neg hy, ih]
    · rw [if_neg hk] at ih ⊢
      by_cases hf : keepFl c Q y = true
      · rw [if_pos hf, sub_cons, ih]
      · rw [if_neg hf, ih]
        have hyc : y.1 = c := by
          unfold keepFl at hf
          simp at hf
          exact hf.1
        rw [if_neg (by omega)]
/-- the document's table says of each client what the clients' pasts say -/
structure Rel (R : Rf) (T : Tb) : Prop where
  lex : Lex R.L
  rq : RiseG R.Q
  pos : ∀ e ∈ R.Q, 0 < e.2
  fl : ∀ c, flR c R.Q = (getT c T).fl
  E : ∀ c, sub c R.L = (getT c T).E
theorem Rel.nil : Rel Rf.nil [] := ⟨List.Pairwise.nil, List.Pairwise.nil, (fun e he => by cases he), fun _ => rfl, fun _ => rfl⟩
theorem flR_put (c f k : Int) (Q : List (Int × Int)) : flR k (putG c f Q) = if c = k then f else flR k Q := by
  unfold flR
  rw [getG_put]
  split <;> rfl
theorem look_rel {R : Rf} {T : Tb} (h : Rel R T) (c n : Int) : lookR c n R = lookT c n T := by unfold lookR lookT; rw [h.fl, h.E]; rfl
theorem keepE_rel {R : Rf} {T : Tb} (h : Rel R T) (c n : Int) (r : Rp) (m : Nat) : keepRE c n r m R = keepE c n r m T := by
  unfold keepRE keepE
  rw [look_rel h]
  by_cases hb : badT c n
  · have h1 : (lookT c n T).2 = 1 := by unfold lookT; rw [if_pos hb]
    rw [if_pos (.inl hb), h1]
    split <;> rfl
  · by_cases hr : r.Right ∧ m = 0
    · rw [if_neg (fun e => e.elim hb fun e => e hr)]
      have h2 : (lookT c n T).2 = 0 ∨ (lookT c n T).2 = 12 ∨ (lookT c n T).2 = 7 := by
        unfold lookT
        rw [if_neg hb]
        split
        · exact .inr (.inl rfl)
        · split
          · exact .inl rfl
          · exact .inr (.inr rfl)
      rcases h2 with e | e | e <;> rw [e] <;> simp [hr]
    · rw [if_pos (.inr hr), if_pos hr]
theorem raise_rel {R : Rf} {c f : Int} (h : Lex R.L) (hq : RiseG R.Q) (hp : ∀ e ∈ R.Q, 0 < e.2) (hf0 : 0 < f ∨ f ≤ flR c R.Q) : Lex (raiseR c f R).L ∧ RiseG (raiseR c f R).Q ∧ (∀ e ∈ (raiseR c f R).Q, 0 < e.2) ∧ (∀ k, flR k (raiseR c f R).Q = if k = c then max f (flR c R.Q) else flR k R.Q) ∧
    ∀ k, sub k (raiseR c f R).L = if k = c then (sub c R.L).filter (fun e => decide (max f (flR c R.Q) < e.1)) else sub k R.L := by
  unfold raiseR
  split
  · next h1 =>
    refine ⟨List.Pairwise.filter _ h, riseG_put hq, fun e he => ?_, fun k => ?_, fun k => ?_⟩
    · rcases mem_putG.1 he with rfl | ⟨he, -⟩
      · simp only; omega
      · exact hp e he
    · simp only
      rw [flR_put]
      by_cases hk : c = k
      · rw [if_pos hk, if_pos hk.symm]; omega
      · rw [if_neg hk, if_neg (fun e => hk e.symm)]
    · simp only
      rw [sub_filter, flR_put, if_pos rfl]
      have : max f (flR c R.Q) = f := by omega
      rw [this]
  · next h1 =>
    refine ⟨List.Pairwise.filter _ h, hq, hp, fun k => ?_, fun k => ?_⟩
    · by_cases hk : k = c
      · subst hk
        rw [if_pos rfl]
        simp only
        omega
      · rw [if_neg hk]
    · simp only
      rw [sub_filter]
      have : max f (flR c R.Q) = flR c R.Q := by omega
      rw [this]
theorem put_rel {R : Rf} {T : Tb} (h : Rel R T) (hT : TGood T) {c n : Int} {r : Rp} (hk : (lookT c n T).2 = 7) : Rel (putR (c, n, r) R) (putT c n r T) := by
  obtain ⟨k1, k2, k3, k4⟩ := lookT_ok hk
  have hnone : getG n (sub c R.L) = none := by rw [h.E]; exact k4
  have hlex : Lex (insR (c, n, r) R.L) := insR_lex h.lex fun e he hh => by
    have : (n, e.2.2) ∈ sub c R.L := sub_mem.2 (by
      have e0 : e = (c, n, e.2.2) := by obtain ⟨h1, h2⟩ := hh; simp only at h1 h2; rw [← h1, ← h2]
      rw [← e0]
      exact he)
    exact getG_none.1 hnone _ this rfl
  have hsub := fun k => sub_ins (x := (c, n, r)) h.lex hnone k
  simp only at hsub
  have hc : sub c (insR (c, n, r) R.L) = putG n r (getT c T).E := by rw [hsub c, if_pos rfl, h.E]
  unfold putR
  simp only
  rw [hc]
  by_cases hl : 4 < (putG n r (getT c T).E).length
  · rw [if_pos hl]
    have hover : (getT c T).fl < over (putG n r (getT c T).E) := by
      obtain ⟨e, he, ho⟩ := over_at hl
      rw [ho]
      rcases mem_putG.1 (List.mem_of_getElem? he) with rfl | ⟨he, -⟩
      · exact k3
      · exact ((hT.get c).num e he).1.1
    have hfl := (hT.get c).fl
    obtain ⟨r1, r2, r3, r4, r5⟩ := raise_rel (R := ⟨insR (c, n, r) R.L, R.Q⟩) (c := c) (f := over (putG n r (getT c T).E)) hlex h.rq h.pos (.inl (by omega))
    simp only at r4 r5
    have hmx : max (over (putG n r (getT c T).E)) (flR c R.Q) = over (putG n r (getT c T).E) := by rw [h.fl]; omega
    refine ⟨r1, r2, r3, fun k => ?_, fun k => ?_⟩
    · rw [r4]
      unfold putT narrowT
      rw [if_pos hl, getT_put]
      by_cases hk : k = c
      · rw [if_pos hk, if_pos hk.symm, hmx]; rfl
      · rw [if_neg hk, if_neg (fun e => hk e.symm), h.fl]
    · rw [r5]
      unfold putT narrowT
      rw [if_pos hl, getT_put]
      by_cases hk : k = c
      · rw [if_pos hk, if_pos hk.symm, hmx, hc]; rfl
      · rw [if_neg hk, if_neg (fun e => hk e.symm), hsub k, if_neg hk, h.E]
  · rw [if_neg hl]
    refine ⟨hlex, h.rq, h.pos, fun k => ?_, fun k => ?_⟩
    · unfold putT narrowT
      rw [if_neg hl, getT_put]
      by_cases hk : c = k
      · rw [if_pos hk, ← hk]; exact h.fl c
      · rw [if_neg hk]; exact h.fl k
    · unfold putT narrowT
      rw [if_neg hl, getT_put]
      by_cases hk : c = k
      · rw [if_pos hk, ← hk]; exact hc
      · rw [if_neg hk]
        show sub k (insR (c, n, r) R.L) = _
        rw [hsub k, if_neg (fun e => hk e.symm), h.E]
theorem keep_rel {R : Rf} {T : Tb} (h : Rel R T) (hT : TGood T) (c n : Int) (r : Rp) (m : Nat) : Rel (keepR c n r m R) (keepT c n r m T) := by
  unfold keepR keepT
  rw [keepE_rel h]
  split
  · next he => exact put_rel h hT (keepE_ok he).2.2
  · exact h
end Go.Proofs.Ytdfhnjocpfjagaa

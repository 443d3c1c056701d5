/- Layer 17 in plain words: how long a table's text is, how many clients a text makes. No condition. -/
import Derived.Test.YtdfhnjocpfjagaaSpecOnce
import Derived.Test.YtdfhnjocpfjagaaMSvPk
import Derived.Test.YtdfhnjocpfjagaaRecB
import Derived.Test.YtdfhnjocpfjagaaOnE
namespace Go.Proofs.Ytdfhnjocpfjagaa
open Go.RowKit

/-! ### what is written -/
def yesN (b : Bool) : Nat := if b then 1 else 0
def formL (r : Rp) : List (List UInt8) := [numForm r.code.toNat, numForm (yesN r.there), numForm r.id.toNat, textForm (packT r.rc)]
def entL (e : Int × Rp) : List (List UInt8) := [numForm e.1.toNat, flat (formL e.2)]
def cliF (e : Int × Pa) : List (List UInt8) := [numForm e.1.toNat, numForm e.2.fl.toNat, numForm e.2.E.length] ++ e.2.E.flatMap entL
def saveL (T : Tb) : List (List UInt8) := numForm T.length :: T.flatMap cliF
def saveT (T : Tb) : List UInt8 := flat (saveL T)

/-! ### what is read -/
abbrev Rs := Nat × Nat
def rNum (l : List UInt8) (s : Rs) : Nat × Rs := if s.2 ≠ 0 then (0, s) else ((getNum l (s.1 : Int)).1, ((getNum l (s.1 : Int)).2.1, (getNum l (s.1 : Int)).2.2))
def rTxt (l : List UInt8) (s : Rs) : List UInt8 × Rs := if s.2 ≠ 0 then ([], s) else ((getText l (s.1 : Int) (l.length : Int)).1, ((getText l (s.1 : Int) (l.length : Int)).2.1, (getText l (s.1 : Int) (l.length : Int)).2.2))
def unpT (t : List UInt8) : List TVal := match cutL 4 t with
  | .ok l [] => l
  | _ => []
def rRep (l : List UInt8) (s : Rs) : Rp × Rs :=
  (⟨((rNum l s).1 : Nat), decide ((rNum l (rNum l s).2).1 = 1), unpT (rTxt l (rNum l (rNum l (rNum l s).2).2).2).1, ((rNum l (rNum l (rNum l s).2).2).1 : Nat)⟩, (rTxt l (rNum l (rNum l (rNum l s).2).2).2).2)
/-- the answers of one client -/
def inL (l : List UInt8) (c : Int) : Nat → Tb → Rs → Tb × Rs
  | 0, T, s => (T, s)
  | k + 1, T, s => if s.2 = 0 then inL l c k (keepT c ((rNum l s).1 : Nat) (rRep l (rNum l s).2).1 0 T) (rRep l (rNum l s).2).2 else (T, s)
/-- one client -/
def cliL (l : List UInt8) (T : Tb) (s : Rs) : Tb × Rs :=
  inL l ((rNum l s).1 : Nat) (rNum l (rNum l (rNum l s).2).2).1 (keepT ((rNum l s).1 : Nat) ((rNum l (rNum l s).2).1 : Nat) Rp.zero 0 T) (rNum l (rNum l (rNum l s).2).2).2
def outL (l : List UInt8) : Nat → Tb → Rs → Tb × Rs
  | 0, T, s => (T, s)
  | k + 1, T, s => if s.2 = 0 then outL l k (cliL l T s).1 (cliL l T s).2 else (T, s)
def loadT (l : List UInt8) : Tb := (outL l (rNum l (0, 0)).1 [] (rNum l (0, 0)).2).1

/-! ### flat lists -/
theorem flat_cons (a : List UInt8) (b : List (List UInt8)) : flat (a :: b) = a ++ flat b := rfl
theorem flat_fm {α : Type} (f : α → List (List UInt8)) : ∀ l : List α, flat (l.flatMap f) = l.flatMap fun x => flat (f x)
  | [] => rfl
  | a :: l => by rw [List.flatMap_cons, flat_app, flat_fm f l, List.flatMap_cons]
theorem unp_pack {r : Rp} (h : r.Right) (hi : ∀ v ∈ r.rc, InI64 v.n) : unpT (packT r.rc) = r.rc := by
  unfold packT recErr
  by_cases h0 : r.rc.length = 0
  · rw [if_pos h0, if_neg (by decide)]
    have : cutL 4 [] = .ok [] [] := by simp [cutL, more]
    unfold unpT
    rw [this, List.eq_nil_of_length_eq_zero h0]
  · rw [if_neg h0, if_pos h.2.2]
    unfold unpT
    rw [keyL_back (allGood_of h.2.2 hi) (rowErr_ok.1 h.2.2).1]
theorem pack_len (l : List TVal) : (packT l).length ≤ 268 := by
  unfold packT recErr
  by_cases h0 : l.length = 0
  · rw [if_pos h0, if_neg (by decide)]
    simp
  · rw [if_neg h0]
    split
    · next h =>
      have h1 := rowErr_ok.1 h
      have h2 := keyL_len h1.2
      omega
    · simp

/-! ### the reader at a form -/
def At (l F : List UInt8) (s : Rs) : Prop := s.2 = 0 ∧ s.1 ≤ l.length ∧ l.drop s.1 = F
theorem at_num {l G : List UInt8} {s : Rs} {k : Nat} (h : At l (numForm k ++ G) s) (hk : k < 9223372036854775808) : (rNum l s).1 = k ∧ At l G (rNum l s).2 := by
  obtain ⟨p, e⟩ := s
  have h1 : e = 0 := h.1
  have h2 : p ≤ l.length := h.2.1
  have h3 := h.2.2
  simp only at h3
  clear h
  subst h1
  unfold rNum
  rw [if_neg (by simp)]
  have e1 := getNum_put (l := l) hk h2 h3
  simp only
  rw [e1]
  have hl := drop_len h3 h2
  rw [List.length_append] at hl
  exact ⟨rfl, rfl, by simp only; omega, drop_more h3⟩
theorem at_txt {l G t : List UInt8} {s : Rs} (h : At l (textForm t ++ G) s) (hl0 : l.length < 9223372036854775808) : (rTxt l s).1 = t ∧ At l G (rTxt l s).2 := by
  obtain ⟨p, e⟩ := s
  have h1 : e = 0 := h.1
  have h2 : p ≤ l.length := h.2.1
  have h3 := h.2.2
  simp only at h3
  clear h
  subst h1
  unfold rTxt
  rw [if_neg (by simp)]
  have hl := drop_len h3 h2
  rw [List.length_append, textForm_len] at hl
  have e1 := getText_put (l := l) (s := t) (most := (l.length : Int)) (by omega) (by omega) h2 h3
  simp only
  rw [e1]
  exact ⟨rfl, rfl, by simp only [textForm_len]; omega, drop_more h3⟩
theorem at_rep {l G : List UInt8} {s : Rs} {r : Rp} (h : At l (flat (formL r) ++ G) s) (hl0 : l.length < 9223372036854775808) (hr : r.Right) (hi : ∀ v ∈ r.rc, InI64 v.n) : (rRep l s).1 = r ∧ At l G (rRep l s).2 := by
  have h0 : At l (numForm r.code.toNat ++ (numForm (yesN r.there) ++ (numForm r.id.toNat ++ (textForm (packT r.rc) ++ G)))) s := by
    simpa [formL, flat, List.append_assoc] using h
  have hc := hr.1
  have hd := hr.2.1
  obtain ⟨v1, h1⟩ := at_num h0 (by omega)
  obtain ⟨v2, h2⟩ := at_num h1 (by unfold yesN; split <;> decide)
  obtain ⟨v3, h3⟩ := at_num h2 (by omega)
  obtain ⟨v4, h4⟩ := at_txt h3 hl0
  refine ⟨?_, h4⟩
  unfold rRep
  simp only
  rw [v1, v2, v3, v4, unp_pack hr hi]
  obtain ⟨code, there, rc, id⟩ := r
  simp only at hc hd ⊢
  have e1 : ((code.toNat : Nat) : Int) = code := Int.toNat_of_nonneg hc.1
  have e2 : ((id.toNat : Nat) : Int) = id := Int.toNat_of_nonneg hd.1
  have e3 : decide (yesN there = 1) = there := by cases there <;> decide
  rw [e1, e2, e3]
def keepAll (c : Int) (E : List (Int × Rp)) (T : Tb) : Tb := E.foldl (fun T e => keepT c e.1 e.2 0 T) T
theorem at_ents {l : List UInt8} (hl0 : l.length < 9223372036854775808) (c : Int) : ∀ (E : List (Int × Rp)) (G : List UInt8) (T : Tb) (s : Rs), At l (flat (E.flatMap entL) ++ G) s → (∀ e ∈ E, (1 ≤ e.1 ∧ e.1 ≤ 1099511627776) ∧ e.2.Right ∧ ∀ v ∈ e.2.rc, InI64 v.n) →
    (inL l c E.length T s).1 = keepAll c E T ∧ At l G (inL l c E.length T s).2
  | [], G, T, s, h, _ => ⟨rfl, h⟩
  | e :: E, G, T, s, h, he => by
    obtain ⟨⟨n1, n2⟩, hr, hi⟩ := he e (by simp)
    have h0 : At l (numForm e.1.toNat ++ (flat (formL e.2) ++ (flat (E.flatMap entL) ++ G))) s := by
      rw [List.flatMap_cons, flat_app] at h
      simpa [entL, flat, List.append_assoc] using h
    obtain ⟨v1, h1⟩ := at_num h0 (by omega)
    obtain ⟨v2, h2⟩ := at_rep h1 hl0 hr hi
    have ih := at_ents hl0 c E G (keepT c e.1 e.2 0 T) _ h2 fun x hx => he x (by simp [hx])
    rw [List.length_cons]
    unfold inL
    rw [if_pos h0.1, v2, v1]
    have e1 : ((e.1.toNat : Nat) : Int) = e.1 := Int.toNat_of_nonneg (by omega)
    rw [e1]
    exact ih

/-! ### what is kept again -/
theorem keep_else {c n k : Int} {r : Rp} {m : Nat} {T : Tb} (h : k ≠ c) : getT k (keepT c n r m T) = getT k T := by
  unfold keepT putT
  split
  · rw [getT_put, if_neg (fun e => h e.symm)]
  · rfl
theorem keepAll_else {c k : Int} (h : k ≠ c) : ∀ (E : List (Int × Rp)) (T : Tb), getT k (keepAll c E T) = getT k T
  | [], _ => rfl
  | e :: E, T => by
    have e0 : keepAll c (e :: E) T = keepAll c E (keepT c e.1 e.2 0 T) := rfl
    rw [e0, keepAll_else h E, keep_else h]
theorem keepAll_good (c : Int) : ∀ (E : List (Int × Rp)) (T : Tb), TGood T → TGood (keepAll c E T)
  | [], _, h => h
  | _ :: E, _, h => keepAll_good c E _ (keepT_good h)
theorem keep_is {c n : Int} {r : Rp} {T : Tb} (hc : 0 ≤ c ∧ c ≤ 1099511627776) (hn : 1 ≤ n ∧ n ≤ 1099511627776) (hr : r.Right) (hf : (getT c T).fl < n) (hE : getG n (getT c T).E = none) : getT c (keepT c n r 0 T) = narrowT ⟨(getT c T).fl, putG n r (getT c T).E⟩ := by
  have h7 : (lookT c n T).2 = 7 := by
    unfold lookT
    rw [if_neg (by unfold badT; omega), if_neg (by omega), hE]
  have h0 : keepE c n r 0 T = 0 := by
    unfold keepE
    rw [if_neg (fun h => h ⟨hr, rfl⟩), h7]
    rfl
  unfold keepT putT
  rw [if_pos h0, getT_put, if_pos rfl]
theorem putG_end {α : Type} {n : Int} {r : α} {L : List (Int × α)} (h : ∀ e ∈ L, e.1 < n) : putG n r L = L ++ [(n, r)] := by
  have hn : getG n L = none := getG_none.2 fun e he => by have := h e he; omega
  unfold putG
  rw [delG_none hn]
  clear hn
  induction L with
  | nil => rfl
  | cons e L ih =>
    have := h e (by simp)
    show (if n < e.1 then (n, r) :: e :: L else e :: insG n r L) = _
    rw [if_neg (by omega), ih fun x hx => h x (by simp [hx])]
    rfl
/-- so many as there may be: nothing is forgotten -/
theorem keepAll_few {c : Int} (hc : 0 ≤ c ∧ c ≤ 1099511627776) : ∀ (E L : List (Int × Rp)) (T : Tb), getT c T = ⟨0, L⟩ → RiseG (L ++ E) → (L ++ E).length ≤ 4 → (∀ e ∈ E, (1 ≤ e.1 ∧ e.1 ≤ 1099511627776) ∧ e.2.Right) → getT c (keepAll c E T) = ⟨0, L ++ E⟩
  | [], L, T, h, _, _, _ => by rw [List.append_nil]; exact h
  | e :: E, L, T, h, hr, hl, he => by
    obtain ⟨hn, hR⟩ := he e (by simp)
    have hlt : ∀ x ∈ L, x.1 < e.1 := fun x hx => (List.pairwise_append.1 hr).2.2 x hx e (by simp)
    have hk := keep_is (c := c) (n := e.1) (r := e.2) (T := T) hc hn hR (by rw [h]; simp only; omega) (by rw [h]; exact getG_none.2 fun x hx => by have := hlt x hx; omega)
    rw [h] at hk
    simp only at hk
    rw [putG_end hlt] at hk
    rw [List.length_append, List.length_cons] at hl
    have hk2 : getT c (keepT c e.1 e.2 0 T) = ⟨0, L ++ [e]⟩ := by
      rw [hk]
      unfold narrowT
      rw [if_neg (by simp; omega)]
    have e0 : keepAll c (e :: E) T = keepAll c E (keepT c e.1 e.2 0 T) := rfl
    have ea : L ++ e :: E = (L ++ [e]) ++ E := by simp
    rw [e0, ea]
    exact keepAll_few hc E (L ++ [e]) _ hk2 (by rw [← ea]; exact hr) (by rw [← ea, List.length_append, List.length_cons]; omega) fun x hx => he x (by simp [hx])
/-- a client's past comes to be again -/
theorem past_again {c : Int} {p : Pa} {T : Tb} (hc : 0 ≤ c ∧ c ≤ 1099511627776) (hp : PGood p) (hT : getT c T = Pa.zero) : getT c (keepAll c p.E (keepT c p.fl Rp.zero 0 T)) = p := by
  have hE : ∀ e ∈ p.E, (1 ≤ e.1 ∧ e.1 ≤ 1099511627776) ∧ e.2.Right := fun e he => by
    have h1 := hp.num e he
    have h2 := hp.fl
    exact ⟨by omega, h1.2⟩
  by_cases hf : p.fl = 0
  · have h0 : keepT c p.fl Rp.zero 0 T = T := by
      unfold keepT
      rw [if_neg]
      intro h
      have := lookT_ok (keepE_ok h).2.2
      omega
    rw [h0]
    have := keepAll_few hc p.E [] T hT (by simpa using hp.rise) (by simpa using hp.len) hE
    rw [this]
    obtain ⟨fl, E⟩ := p
    simp only at hf
    subst hf
    rfl
  · have hfl := hp.fl
    have h4 := hp.full (by omega)
    have hz : Rp.zero.Right := by decide
    have h1 := keep_is (c := c) (n := p.fl) (r := Rp.zero) (T := T) hc (by omega) hz (by rw [hT]; simp only [Pa.zero]; omega) (by rw [hT]; rfl)
    rw [hT] at h1
    have h2 : getT c (keepT c p.fl Rp.zero 0 T) = ⟨0, [(p.fl, Rp.zero)]⟩ := by rw [h1]; rfl
    obtain ⟨fl, E⟩ := p
    simp only at hf hfl h4 hE h1 h2 hp ⊢
    match E, h4 with
    | [a, b, d, e], _ =>
      have hn := hp.num
      simp only [List.mem_cons, List.not_mem_nil, or_false] at hn hE
      have ha := (hn a (by simp)).1.1
      have hrise : RiseG [a, b, d, e] := hp.rise
      have h5 := keepAll_few hc [a, b, d] [(fl, Rp.zero)] _ h2 (by
        obtain ⟨q1, q2⟩ := List.pairwise_cons.1 hrise
        refine List.pairwise_cons.2 ⟨fun x hx => ?_, List.Pairwise.sublist (by simp) hrise⟩
        have := (hn x (by simp at hx; rcases hx with h | h | h <;> simp [h])).1.1
        exact this) (by simp) (fun x hx => hE x (by simp at hx; rcases hx with h | h | h <;> simp [h]))
      have hde : ∀ x ∈ [(fl, Rp.zero)] ++ [a, b, d], x.1 < e.1 := fun x hx => by
        have q0 : ([a, b, d] ++ [e]).Pairwise fun p q => p.1 < q.1 := hrise
        have q := List.pairwise_append.1 q0
        simp only [List.singleton_append, List.mem_cons] at hx
        rcases hx with rfl | hx
        · exact (hn e (by simp)).1.1
        · exact q.2.2 x (by simpa using hx) e (by simp)
      have h6 := keep_is (c := c) (n := e.1) (r := e.2) (T := keepAll c [a, b, d] (keepT c fl Rp.zero 0 T)) hc (hE e (by simp)).1 (hE e (by simp)).2 (by rw [h5]; have := (hE e (by simp)).1; simp only; omega) (by rw [h5]; exact getG_none.2 fun x hx => by have := hde x hx; omega)
      have e0 : keepAll c [a, b, d, e] (keepT c fl Rp.zero 0 T) = keepT c e.1 e.2 0 (keepAll c [a, b, d] (keepT c fl Rp.zero 0 T)) := rfl
      rw [e0, h6, h5]
      simp only
      rw [putG_end hde]
      unfold narrowT
      rw [if_pos (by simp)]
      have ho : over ([(fl, Rp.zero)] ++ [a, b, d] ++ [(e.1, e.2)]) = fl := rfl
      simp only
      rw [ho]
      unfold riseT
      simp only
      congr 1
      have hb := (hn b (by simp)).1.1
      have hd := (hn d (by simp)).1.1
      have he := (hn e (by simp)).1.1
      simp [ha, hb, hd, he]
/-- one client more -/
theorem cli_again {T : Tb} {c : Int} {p : Pa} (hT : TGood T) (hc : 0 ≤ c ∧ c ≤ 1099511627776) (hp : PGood p) (hne : p.E ≠ []) (hlt : ∀ e ∈ T, e.1 < c) : keepAll c p.E (keepT c p.fl Rp.zero 0 T) = T ++ [(c, p)] := by
  have hz : getT c T = Pa.zero := by
    unfold getT
    rw [getG_none.2 fun e he => by have := hlt e he; omega]
    rfl
  rw [← putG_end hlt]
  refine tb_ext (keepAll_good c _ _ (keepT_good hT)) ⟨riseG_put hT.rise, fun e he => ?_⟩ fun k => ?_
  · rcases mem_putG.1 he with rfl | ⟨he, -⟩
    · exact ⟨hc, hne, hp⟩
    · exact hT.cl e he
  · rw [getT_put]
    by_cases hk : k = c
    · subst hk
      rw [if_pos rfl]
      exact past_again hc hp hz
    · rw [if_neg (fun e => hk e.symm), keepAll_else hk, keep_else hk]
def TIntL (T : Tb) : Prop := ∀ e ∈ T, ∀ x ∈ e.2.E, ∀ v ∈ x.2.rc, InI64 v.n
theorem out_again {l : List UInt8} (hl0 : l.length < 9223372036854775808) : ∀ (T2 T1 : Tb) (G : List UInt8) (s : Rs), At l (flat (T2.flatMap cliF) ++ G) s → TGood (T1 ++ T2) → TIntL T2 → (outL l T2.length T1 s).1 = T1 ++ T2
  | [], T1, G, s, _, _, _ => by simp [outL]
  | e :: T2, T1, G, s, h, hT, hi => by
    obtain ⟨c, p⟩ := e
    obtain ⟨hc, hne, hp⟩ := hT.cl (c, p) (by simp)
    simp only at hc hne hp
    have hfl := hp.fl
    have hlen := hp.len
    have h0 : At l (numForm c.toNat ++ (numForm p.fl.toNat ++ (numForm p.E.length ++ (flat (p.E.flatMap entL) ++ (flat (T2.flatMap cliF) ++ G))))) s := by
      rw [List.flatMap_cons, flat_app] at h
      simpa [cliF, flat, List.append_assoc] using h
    obtain ⟨v1, h1⟩ := at_num h0 (by omega)
    obtain ⟨v2, h2⟩ := at_num h1 (by omega)
    obtain ⟨v3, h3⟩ := at_num h2 (by omega)
    have hE : ∀ e ∈ p.E, (1 ≤ e.1 ∧ e.1 ≤ 1099511627776) ∧ e.2.Right ∧ ∀ v ∈ e.2.rc, InI64 v.n := fun e he => ⟨by have := (hp.num e he).1; omega, (hp.num e he).2, hi (c, p) (by simp) e he⟩
    obtain ⟨w1, w2⟩ := at_ents hl0 c p.E (flat (T2.flatMap cliF) ++ G) (keepT c p.fl Rp.zero 0 T1) _ h3 hE
    have e1 : ((c.toNat : Nat) : Int) = c := Int.toNat_of_nonneg hc.1
    have e2 : ((p.fl.toNat : Nat) : Int) = p.fl := Int.toNat_of_nonneg hfl.1
    have hrise := hT.rise
    have hT1 : TGood T1 := ⟨List.Pairwise.sublist (List.sublist_append_left _ _) hrise, fun x hx => hT.cl x (by simp [hx])⟩
    have hlt : ∀ x ∈ T1, x.1 < c := fun x hx => (List.pairwise_append.1 hrise).2.2 x hx (c, p) (by simp)
    have hcl : (cliL l T1 s).1 = T1 ++ [(c, p)] ∧ At l (flat (T2.flatMap cliF) ++ G) (cliL l T1 s).2 := by
      unfold cliL
      rw [v1, v2, v3, e1, e2]
      exact ⟨w1.trans (cli_again hT1 hc hp hne hlt), w2⟩
    rw [List.length_cons]
    unfold outL
    rw [if_pos h0.1, hcl.1]
    have ea : T1 ++ (c, p) :: T2 = (T1 ++ [(c, p)]) ++ T2 := by simp
    rw [ea]
    exact out_again hl0 T2 _ G _ hcl.2 (by rw [← ea]; exact hT) fun x hx => hi x (by simp [hx])
/-- what was saved is loaded as it was -/
theorem load_save {T : Tb} (hT : TGood T) (hi : TIntL T) (hl : (saveT T).length < 9223372036854775808) (hn : T.length < 9223372036854775808) : loadT (saveT T) = T := by
  have h0 : At (saveT T) (numForm T.length ++ (flat (T.flatMap cliF) ++ [])) (0, 0) := ⟨rfl, Nat.zero_le _, by simp [saveT, saveL, flat]⟩
  obtain ⟨v1, h1⟩ := at_num h0 hn
  unfold loadT
  rw [v1]
  have := out_again hl T [] [] _ h1 (by simpa using hT) hi
  simpa using this
end Go.Proofs.Ytdfhnjocpfjagaa

namespace Go.Proofs.Ytdfhnjocpfjagaa
open Go.RowKit

/-- the records' numbers are numbers of 64 bits -/
def TInt (T : Tb) : Prop := ∀ c n r, getG n (getT c T).E = some r → ∀ v ∈ r.rc, InI64 v.n
theorem TInt.nil : TInt [] := fun c n r h => by cases h
theorem narrow_sub {p : Pa} {n : Int} {r : Rp} (h : getG n (narrowT p).E = some r) : getG n p.E = some r := by
  unfold narrowT at h
  split at h
  · rw [riseT_get] at h
    split at h
    · exact h
    · cases h
  · exact h
theorem TInt.keep {T : Tb} (h : TInt T) {c n : Int} {r : Rp} {m : Nat} (hr : ∀ v ∈ r.rc, InI64 v.n) : TInt (keepT c n r m T) := by
  unfold keepT
  split
  · intro c' n' r' hg v hv
    unfold putT at hg
    rw [getT_put] at hg
    split at hg
    · have h1 := narrow_sub hg
      simp only at h1
      rw [getG_put] at h1
      split at h1
      · injection h1 with h1
        subst h1
        exact hr v hv
      · exact h c n' r' h1 v hv
    · exact h c' n' r' hg v hv
  · exact h
/-- how many answers -/
def cntT (T : Tb) : Nat := (T.map fun e => e.2.E.length).sum
theorem cnt_cons (e : Int × Pa) (T : Tb) : cntT (e :: T) = e.2.E.length + cntT T := by simp [cntT]
theorem cnt_ins (c : Int) (p : Pa) : ∀ T : Tb, cntT (insG c p T) = p.E.length + cntT T
  | [] => by simp [insG, cntT]
  | e :: T => by
    show cntT (if c < e.1 then (c, p) :: e :: T else e :: insG c p T) = _
    split
    · rw [cnt_cons]
    · rw [cnt_cons, cnt_ins c p T, cnt_cons]
      omega
theorem cnt_del (c : Int) : ∀ {T : Tb}, RiseG T → cntT (delG c T) + (getT c T).E.length = cntT T
  | [], _ => rfl
  | e :: T, h => by
    obtain ⟨h1, h2⟩ := List.pairwise_cons.1 h
    unfold getT
    rw [getG_cons]
    by_cases hc : e.1 = c
    · have hn : getG c T = none := getG_none.2 fun x hx => by have := h1 x hx; omega
      have hd : delG c (e :: T) = T := by
        unfold delG
        rw [List.filter_cons]
        simp only [hc, decide_true, Bool.not_true, Bool.false_eq_true, if_false]
        exact delG_none hn
      rw [if_pos hc, hd, cnt_cons]
      simp only [Option.getD_some]
      omega
    · have hd : delG c (e :: T) = e :: delG c T := by
        unfold delG
        rw [List.filter_cons]
        simp [hc]
      have ih := cnt_del c h2
      unfold getT at ih
      rw [if_neg hc, hd, cnt_cons, cnt_cons]
      omega
theorem narrow_len (p : Pa) : (narrowT p).E.length ≤ p.E.length := by
  unfold narrowT riseT
  split
  · exact List.length_filter_le _ _
  · exact Nat.le_refl _
theorem cnt_keep {T : Tb} (h : RiseG T) (c n : Int) (r : Rp) (m : Nat) : cntT (keepT c n r m T) ≤ cntT T + 1 := by
  unfold keepT
  split
  · have h1 := cnt_del c h
    have h2 := narrow_len ⟨(getT c T).fl, putG n r (getT c T).E⟩
    have h3 := putG_len n r (getT c T).E
    unfold putT
    have e : putG c (narrowT ⟨(getT c T).fl, putG n r (getT c T).E⟩) T = insG c (narrowT ⟨(getT c T).fl, putG n r (getT c T).E⟩) (delG c T) := rfl
    rw [e, cnt_ins]
    simp only at h2
    omega
  · omega
theorem cnt_four : ∀ {T : Tb}, (∀ e ∈ T, e.2.E.length ≤ 4) → cntT T ≤ 4 * T.length
  | [], _ => Nat.le_refl _
  | e :: T, h => by
    have h1 := h e (by simp)
    have h2 := cnt_four fun x hx => h x (List.mem_cons_of_mem _ hx)
    rw [cnt_cons, List.length_cons]
    omega
end Go.Proofs.Ytdfhnjocpfjagaa

namespace Go.Proofs.Ytdfhnjocpfjagaa
open Go.RowKit

theorem flat_len : ∀ (L : List (List UInt8)) (m : Nat), (∀ x ∈ L, x.length ≤ m) → (flat L).length ≤ m * L.length
  | [], _, _ => Nat.zero_le _
  | a :: L, m, h => by
    have h1 := h a (by simp)
    have h2 := flat_len L m fun x hx => h x (List.mem_cons_of_mem _ hx)
    rw [flat_cons, List.length_append, List.length_cons, Nat.mul_succ]
    omega
theorem num_len {z : Int} (h : 0 ≤ z ∧ z ≤ 1099511627776) : (numForm z.toNat).length ≤ 9 := numForm_len9 (by omega)
theorem form_len {r : Rp} (h : r.Right) : (flat (formL r)).length ≤ 304 := by
  have h1 := num_len h.1
  have h2 := num_len h.2.1
  have h3 : (numForm (yesN r.there)).length ≤ 9 := numForm_len9 (by unfold yesN; split <;> decide)
  have h4 := pack_len r.rc
  have h5 : (numForm (packT r.rc).length).length ≤ 9 := numForm_len9 (by omega)
  simp only [formL, flat, List.length_append, textForm_len, List.length_nil]
  omega
theorem ents_len : ∀ (E : List (Int × Rp)), (∀ e ∈ E, (0 ≤ e.1 ∧ e.1 ≤ 1099511627776) ∧ e.2.Right) → (flat (E.flatMap entL)).length ≤ 313 * E.length ∧ (E.flatMap entL).length = 2 * E.length
  | [], _ => ⟨Nat.le_refl _, rfl⟩
  | e :: E, h => by
    obtain ⟨h1, h2⟩ := ents_len E fun x hx => h x (List.mem_cons_of_mem _ hx)
    obtain ⟨h3, h4⟩ := h e (by simp)
    have h5 := num_len h3
    have h6 := form_len h4
    rw [List.flatMap_cons, flat_app, List.length_append, List.length_append, List.length_cons]
    simp only [entL, flat, List.length_append, List.length_cons, List.length_nil]
    omega
theorem clis_len : ∀ (T : Tb), (∀ e ∈ T, (0 ≤ e.1 ∧ e.1 ≤ 1099511627776) ∧ PGood e.2) → (flat (T.flatMap cliF)).length ≤ 27 * T.length + 313 * cntT T ∧ (T.flatMap cliF).length = 3 * T.length + 2 * cntT T
  | [], _ => ⟨Nat.zero_le _, rfl⟩
  | e :: T, h => by
    obtain ⟨h1, h2⟩ := clis_len T fun x hx => h x (List.mem_cons_of_mem _ hx)
    obtain ⟨h3, h4⟩ := h e (by simp)
    obtain ⟨h5, h6⟩ := ents_len e.2.E fun x hx => ⟨by have := (h4.num x hx).1; have := h4.fl; omega, (h4.num x hx).2⟩
    have h7 := num_len h3
    have h8 := num_len h4.fl
    have h9 : (numForm e.2.E.length).length ≤ 9 := numForm_len9 (by have := h4.len; omega)
    rw [List.flatMap_cons, flat_app, List.length_append, List.length_append, List.length_cons, cnt_cons]
    simp only [cliF, flat_app, flat, List.length_append, List.length_cons, List.length_nil]
    omega
theorem save_len {T : Tb} (h : TGood T) (hl : T.length ≤ 1000000) : (saveT T).length ≤ 9 + 27 * T.length + 313 * cntT T ∧ (saveL T).length = 1 + 3 * T.length + 2 * cntT T := by
  obtain ⟨h1, h2⟩ := clis_len T fun e he => ⟨(h.cl e he).1, (h.cl e he).2.2⟩
  have h3 : (numForm T.length).length ≤ 9 := numForm_len9 (by omega)
  unfold saveT saveL
  rw [flat_cons, List.length_append, List.length_cons]
  omega
theorem TGood.cnt {T : Tb} (h : TGood T) : cntT T ≤ 4 * T.length := cnt_four fun e he => (h.cl e he).2.2.len
theorem TInt.list {T : Tb} (h : TInt T) (hT : TGood T) : TIntL T := fun e he x hx v hv => by
  have h1 : getT e.1 T = e.2 := by
    unfold getT
    rw [getG_of hT.rise (k := e.1) (a := e.2) he]
    rfl
  exact h e.1 x.1 x.2 (by rw [h1]; exact getG_of (hT.cl e he).2.2.rise hx) v hv
/-- what is saved tells the table -/
theorem save_inj {S T : Tb} (hS : TGood S) (hT : TGood T) (iS : TInt S) (iT : TInt T) (lS : S.length ≤ 1000000) (lT : T.length ≤ 1000000) (h : saveT S = saveT T) : S = T := by
  have h1 := hS.cnt
  have h2 := hT.cnt
  have h3 := (save_len hS lS).1
  have h4 := (save_len hT lT).1
  rw [← load_save hS (iS.list hS) (by omega) (by omega), ← load_save hT (iT.list hT) (by omega) (by omega), h]

/-! ### reading -/
section
variable {l : List UInt8} {s : Rs}
theorem rNum_mono (h : (rNum l s).2.2 = 0) : s.2 = 0 ∧ s.1 + 1 ≤ (rNum l s).2.1 ∧ (rNum l s).2.1 ≤ l.length ∧ (rNum l s).1 < 9223372036854775808 := by
  unfold rNum at h ⊢
  by_cases hs : s.2 = 0
  · have e : ¬ s.2 ≠ 0 := fun e => e hs
    rw [if_neg e] at h ⊢
    have h1 := getNum_bound h
    simp only
    omega
  · rw [if_pos hs] at h
    exact absurd h hs
theorem rNum_dead (h : (rNum l s).2.2 ≠ 0) : (rNum l s).1 = 0 := by
  unfold rNum at h ⊢
  by_cases hs : s.2 = 0
  · have e : ¬ s.2 ≠ 0 := fun e => e hs
    rw [if_neg e] at h ⊢
    simp only at h ⊢
    rw [getNum_err h]
  · rw [if_pos hs]
theorem rNum_lt : (rNum l s).1 < 9223372036854775808 := by
  by_cases h : (rNum l s).2.2 = 0
  · exact (rNum_mono h).2.2.2
  · rw [rNum_dead h]; decide
theorem rTxt_mono (h : (rTxt l s).2.2 = 0) : s.2 = 0 ∧ s.1 + 1 ≤ (rTxt l s).2.1 ∧ (rTxt l s).2.1 ≤ l.length := by
  unfold rTxt at h ⊢
  by_cases hs : s.2 = 0
  · have e : ¬ s.2 ≠ 0 := fun e => e hs
    rw [if_neg e] at h ⊢
    have h1 := getText_place h
    simp only
    omega
  · rw [if_pos hs] at h
    exact absurd h hs
theorem rRep_mono (h : (rRep l s).2.2 = 0) : s.2 = 0 ∧ s.1 + 4 ≤ (rRep l s).2.1 ∧ (rRep l s).2.1 ≤ l.length := by
  unfold rRep at h ⊢
  simp only at h ⊢
  have h4 := rTxt_mono h
  have h3 := rNum_mono h4.1
  have h2 := rNum_mono h3.1
  have h1 := rNum_mono h2.1
  omega
theorem unp_int (t : List UInt8) : ∀ v ∈ unpT t, InI64 v.n := by
  intro v hv
  unfold unpT at hv
  split at hv
  · next m h => exact ((cutL_ok 4 t m [] h).2.1 v hv).2
  · cases hv
theorem rRep_int : ∀ v ∈ (rRep l s).1.rc, InI64 v.n := unp_int _
theorem unp_len (t : List UInt8) : (unpT t).length ≤ 4 := by
  unfold unpT
  split
  · next m h => exact (cutL_ok 4 t m [] h).2.2.1
  · simp
def Inv (l : List UInt8) (T : Tb) (s : Rs) : Prop := 3 * T.length ≤ l.length + 3 ∧ (s.2 = 0 → 3 * T.length ≤ s.1 ∧ s.1 ≤ l.length)
theorem keep_zero {c : Int} {r : Rp} {m : Nat} {T : Tb} : keepT c ((0 : Nat) : Int) r m T = T := by
  unfold keepT
  rw [if_neg]
  intro h
  have := (lookT_ok (keepE_ok h).2.2).2.1
  omega
theorem inv_in {T : Tb} {c : Int} (h : Inv l T s) (hs : s.2 = 0) : Inv l (keepT c ((rNum l s).1 : Nat) (rRep l (rNum l s).2).1 0 T) (rRep l (rNum l s).2).2 := by
  have hk := keepT_len c ((rNum l s).1 : Nat) (rRep l (rNum l s).2).1 0 T
  obtain ⟨h1, h2⟩ := h
  have h3 := h2 hs
  refine ⟨?_, fun h0 => ?_⟩
  · by_cases hn : (rNum l s).2.2 = 0
    · have := rNum_mono hn
      omega
    · rw [rNum_dead hn, keep_zero]
      exact h1
  · have h4 := rRep_mono h0
    have h5 := rNum_mono h4.1
    omega
theorem inv_cli {T : Tb} (h : Inv l T s) (hs : s.2 = 0) : Inv l (keepT ((rNum l s).1 : Nat) ((rNum l (rNum l s).2).1 : Nat) Rp.zero 0 T) (rNum l (rNum l (rNum l s).2).2).2 := by
  have hk := keepT_len ((rNum l s).1 : Nat) ((rNum l (rNum l s).2).1 : Nat) Rp.zero 0 T
  obtain ⟨h1, h2⟩ := h
  have h3 := h2 hs
  refine ⟨?_, fun h0 => ?_⟩
  · by_cases hn : (rNum l (rNum l s).2).2.2 = 0
    · have h4 := rNum_mono hn
      have h5 := rNum_mono h4.1
      omega
    · rw [rNum_dead hn, keep_zero]
      exact h1
  · have h4 := rNum_mono h0
    have h5 := rNum_mono h4.1
    have h6 := rNum_mono h5.1
    omega
end
end Go.Proofs.Ytdfhnjocpfjagaa

/-
  Layer 9 as plain mathematics: runs as bytes, and what bytes are. Nothing of the translated program is named here.
-/
import Derived.Test.YteioopcacpihpaaSpecRun
import Derived.Test.YteioopcacpihpaaSpecBack
namespace Go.Proofs.Yteioopcacpihpaa

def goneN (g : Bool) : Nat := if g then 1 else 0
def chgForm (c : Chg) : List UInt8 := textForm c.k.data.toList ++ (numForm (goneN c.g) ++ textForm c.v.data.toList)
def bodyL : List Chg → List UInt8
  | [] => []
  | c :: l => chgForm c ++ bodyL l
def packL (l : List Chg) : List UInt8 := numForm l.length ++ bodyL l
theorem bodyL_app (a b : List Chg) : bodyL (a ++ b) = bodyL a ++ bodyL b := by
  induction a with
  | nil => rfl
  | cons c a ih => simp [bodyL, ih]
theorem goneN_one (g : Bool) : numForm (goneN g) = [if g then 1 else 0] := by cases g <;> (unfold goneN; rw [numForm_lo (by simp)]; rfl)
theorem goneN_lt (g : Bool) : goneN g ≤ 1 := by cases g <;> simp [goneN]

/-- a change, read at a place: the change, the place behind it, the error -/
def getChg (b : List UInt8) (p : Nat) : Chg × Nat × Nat :=
  let k := getText b p 9223372036854775807
  if k.2.2 ≠ 0 then (default, 0, k.2.2)
  else
    let g := getNum b k.2.1
    if g.2.2 ≠ 0 then (default, 0, g.2.2)
    else if 1 < g.1 then (default, 0, 3)
    else
      let v := getText b g.2.1 9223372036854775807
      if v.2.2 ≠ 0 then (default, 0, v.2.2) else (⟨⟨k.1.toArray⟩, ⟨v.1.toArray⟩, decide (g.1 = 1)⟩, v.2.1, 0)
/-- so many changes, read one by one from a place on: the error, the changes, the place -/
def readC (b : List UInt8) : Nat → Nat → Nat × List Chg × Nat
  | 0, p => (0, [], p)
  | m + 1, p =>
    let c := getChg b p
    if c.2.2 ≠ 0 then (c.2.2, [], 0)
    else
      let r := readC b m c.2.1
      if r.1 ≠ 0 then (r.1, [], 0) else (0, c.1 :: r.2.1, r.2.2)
open Classical in
/-- what bytes are: the error, the run -/
noncomputable def unpackT (b : List UInt8) : Nat × List Chg :=
  let n := getNum b 0
  if n.2.2 ≠ 0 then (n.2.2, [])
  else
    let r := readC b n.1 n.2.1
    if r.1 ≠ 0 then (r.1, []) else if r.2.2 = b.length ∧ Run r.2.1 then (0, r.2.1) else (3, [])
theorem getText_next {l : List UInt8} {p most : Int} (h : (getText l p most).2.2 = 0) : 0 ≤ p ∧ p < (getText l p most).2.1 ∧ (getText l p most).2.1 ≤ l.length := getText_place h
theorem getChg_ok {b : List UInt8} {p : Nat} (h : (getChg b p).2.2 = 0) : p + 3 ≤ (getChg b p).2.1 ∧ (getChg b p).2.1 ≤ b.length ∧ chgForm (getChg b p).1 = (b.drop p).take ((getChg b p).2.1 - p) := by
  unfold getChg at h ⊢
  by_cases h1 : (getText b p 9223372036854775807).2.2 = 0
  · by_cases h2 : (getNum b (getText b p 9223372036854775807).2.1).2.2 = 0
    · by_cases h3 : 1 < (getNum b (getText b p 9223372036854775807).2.1).1
      · simp [h1, h2, h3] at h
      · by_cases h4 : (getText b (getNum b (getText b p 9223372036854775807).2.1).2.1 9223372036854775807).2.2 = 0
        · simp only [h1, h2, h3, h4, ne_eq, not_true_eq_false, if_false]
          obtain ⟨-, a2, a3⟩ := getText_place h1
          obtain ⟨-, -, b2, b3⟩ := getNum_bound h2
          obtain ⟨-, c2, c3⟩ := getText_place h4
          have e1 := getText_one h1
          have e2 := getNum_one h2
          have e3 := getText_one h4
          simp only [Int.toNat_natCast] at e1 e2 e3
          refine ⟨by omega, c3, ?_⟩
          unfold chgForm
          have hg : goneN (decide ((getNum b (getText b p 9223372036854775807).2.1).1 = 1)) = (getNum b (getText b p 9223372036854775807).2.1).1 := by
            unfold goneN
            by_cases e : (getNum b (getText b p 9223372036854775807).2.1).1 = 1
            · simp [e]
            · simp [e]; omega
          simp only [hg, e1, e2, e3]
          rw [take_join b (by omega) (by omega), take_join b (by omega) (by omega)]
        · simp [h1, h2, h3, h4] at h
    · simp [h1, h2] at h
  · simp [h1] at h
theorem readC_ok {b : List UInt8} : ∀ {m p : Nat}, (readC b m p).1 = 0 → p ≤ b.length → p ≤ (readC b m p).2.2 ∧ (readC b m p).2.2 ≤ b.length ∧ (readC b m p).2.1.length = m ∧ p + 3 * m ≤ (readC b m p).2.2 ∧ bodyL (readC b m p).2.1 = (b.drop p).take ((readC b m p).2.2 - p)
  | 0, p, _, hp => by simp [readC, bodyL, hp]
  | m + 1, p, h, hp => by
    by_cases h1 : (getChg b p).2.2 = 0
    · obtain ⟨a1, a2, a3⟩ := getChg_ok h1
      by_cases h2 : (readC b m (getChg b p).2.1).1 = 0
      · obtain ⟨b1, b2, b3, b4, b5⟩ := readC_ok h2 a2
        unfold readC
        simp only [h1, h2, ne_eq, not_true_eq_false, if_false]
        refine ⟨by omega, b2, by simp [b3], by omega, ?_⟩
        simp only [bodyL, a3, b5]
        exact take_join b (by omega) b1
      · simp [readC, h1, h2] at h
    · simp [readC, h1] at h
theorem readC_succ (b : List UInt8) (m p : Nat) : readC b (m + 1) p = if (getChg b p).2.2 ≠ 0 then ((getChg b p).2.2, [], 0) else if (readC b m (getChg b p).2.1).1 ≠ 0 then ((readC b m (getChg b p).2.1).1, [], 0) else (0, (getChg b p).1 :: (readC b m (getChg b p).2.1).2.1, (readC b m (getChg b p).2.1).2.2) := rfl
theorem readC_inv {b : List UInt8} {i p q : Nat} {acc : List Chg} (h : readC b (i + 1) p = (0, acc, q)) : (getChg b p).2.2 = 0 ∧ ∃ acc', acc = (getChg b p).1 :: acc' ∧ readC b i (getChg b p).2.1 = (0, acc', q) := by
  rw [readC_succ] at h
  by_cases h1 : (getChg b p).2.2 = 0
  · rw [if_neg (by simpa using h1)] at h
    by_cases h2 : (readC b i (getChg b p).2.1).1 = 0
    · rw [if_neg (by simpa using h2)] at h
      simp only [Prod.mk.injEq, true_and] at h
      exact ⟨h1, _, h.1.symm, by rw [← h.2, ← h2]⟩
    · rw [if_pos h2] at h
      simp only [Prod.mk.injEq] at h
      exact absurd h.1 h2
  · rw [if_pos h1] at h
    simp only [Prod.mk.injEq] at h
    exact absurd h.1 h1
/-- the first i changes have been read -/
theorem readC_step {b : List UInt8} : ∀ {i p q : Nat} {acc : List Chg}, readC b i p = (0, acc, q) → (getChg b q).2.2 = 0 → readC b (i + 1) p = (0, acc ++ [(getChg b q).1], (getChg b q).2.1)
  | 0, p, q, acc, h, hc => by
    simp only [readC, Prod.mk.injEq, true_and] at h
    obtain ⟨rfl, rfl⟩ := h
    rw [readC_succ, if_neg (by simpa using hc)]
    simp [readC]
  | i + 1, p, q, acc, h, hc => by
    obtain ⟨h1, acc', rfl, h2⟩ := readC_inv h
    have ih := readC_step h2 hc
    rw [readC_succ, if_neg (by simpa using h1), ih]
    simp
theorem readC_err {b : List UInt8} : ∀ {i m p q : Nat} {acc : List Chg}, readC b i p = (0, acc, q) → i < m → (getChg b q).2.2 ≠ 0 → readC b m p = ((getChg b q).2.2, [], 0)
  | i, 0, _, _, _, _, hm, _ => by omega
  | 0, m + 1, p, q, acc, h, _, hc => by
    simp only [readC, Prod.mk.injEq, true_and] at h
    obtain ⟨rfl, rfl⟩ := h
    rw [readC_succ, if_pos hc]
  | i + 1, m + 1, p, q, acc, h, hm, hc => by
    obtain ⟨h1, acc', rfl, h2⟩ := readC_inv h
    have ih := readC_err h2 (by omega : i < m) hc
    rw [readC_succ, if_neg (by simpa using h1), ih]
    simp [hc]
theorem unpack_pack {b : List UInt8} {l : List Chg} (h : unpackT b = (0, l)) : packL l = b ∧ Run l := by
  unfold unpackT at h
  by_cases h1 : (getNum b 0).2.2 = 0
  · obtain ⟨-, -, n2, n3⟩ := getNum_bound h1
    by_cases h2 : (readC b (getNum b 0).1 (getNum b 0).2.1).1 = 0
    · by_cases h3 : (readC b (getNum b 0).1 (getNum b 0).2.1).2.2 = b.length ∧ Run (readC b (getNum b 0).1 (getNum b 0).2.1).2.1
      · simp [h1, h2, h3] at h
        obtain ⟨a1, a2, a3, a4, a5⟩ := readC_ok h2 n3
        rw [h] at a3 a5
        have hr := h3.2
        rw [h] at hr
        refine ⟨?_, hr⟩
        unfold packL
        have e1 := getNum_one h1
        have e0 : (0 : Int).toNat = 0 := rfl
        rw [e0] at e1
        rw [a3, a5, e1, h3.1, take_join b (by omega) (by omega)]
        simp
      · exfalso
        have := h
        simp only [h1, h2, ne_eq, not_true_eq_false, if_false, if_neg h3, Prod.mk.injEq] at this
        omega
    · exfalso
      simp only [h1, ne_eq, not_true_eq_false, if_false, if_pos h2, Prod.mk.injEq] at h
      exact h2 h.1
  · exfalso
    simp only [ne_eq, if_pos h1, Prod.mk.injEq] at h
    exact h1 h.1
theorem getChg_put {b more : List UInt8} {p : Nat} {c : Chg} (hk : c.k.data.toList.length ≤ 1000000) (hv : c.v.data.toList.length ≤ 1000000) (hp : p ≤ b.length) (h : b.drop p = chgForm c ++ more) : getChg b p = (c, p + (chgForm c).length, 0) := by
  unfold chgForm at h ⊢
  rw [List.append_assoc] at h
  have e1 := getText_put (most := 9223372036854775807) (by omega) (by omega) hp h
  have d1 := drop_more h
  have l1 : p + (textForm c.k.data.toList).length ≤ b.length := by
    have := congrArg List.length h
    rw [List.length_drop, List.length_append] at this
    omega
  rw [List.append_assoc] at d1
  have e2 := getNum_put (n := goneN c.g) (by have := goneN_lt c.g; omega) l1 d1
  have d2 := drop_more d1
  have l2 : p + (textForm c.k.data.toList).length + (numForm (goneN c.g)).length ≤ b.length := by
    have := congrArg List.length d1
    rw [List.length_drop, List.length_append] at this
    omega
  have e3 := getText_put (most := 9223372036854775807) (by omega) (by omega) l2 d2
  have hg : ¬ 1 < goneN c.g := by have := goneN_lt c.g; omega
  have hg2 : decide (goneN c.g = 1) = c.g := by cases c.g <;> rfl
  unfold getChg
  rw [List.length_append, List.length_append, ← Nat.add_assoc, ← Nat.add_assoc]
  simp only [e1, e2, e3, hg, hg2, ne_eq, not_true_eq_false, if_false]
theorem readC_put {b : List UInt8} : ∀ {l : List Chg} {more : List UInt8} {p : Nat}, (∀ c ∈ l, c.k.data.toList.length ≤ 1000000 ∧ c.v.data.toList.length ≤ 1000000) → p ≤ b.length → b.drop p = bodyL l ++ more → readC b l.length p = (0, l, p + (bodyL l).length)
  | [], _, p, _, _, _ => by simp [readC, bodyL]
  | c :: l, more, p, hs, hp, h => by
    have hc := hs c (by simp)
    unfold bodyL at h
    rw [List.append_assoc] at h
    have e1 := getChg_put hc.1 hc.2 hp h
    have l1 : p + (chgForm c).length ≤ b.length := by
      have := congrArg List.length h
      rw [List.length_drop, List.length_append] at this
      omega
    have e2 := readC_put (fun x hx => hs x (List.mem_cons_of_mem _ hx)) l1 (drop_more h)
    simp only [List.length_cons, readC, e1, e2, ne_eq, not_true_eq_false, if_false, bodyL, List.length_append, Nat.add_assoc]
theorem pack_unpack {l : List Chg} (hl : l.length ≤ 1000000) (hs : ∀ c ∈ l, c.k.data.toList.length ≤ 1000000 ∧ c.v.data.toList.length ≤ 1000000) (hr : Run l) : unpackT (packL l) = (0, l) := by
  have h0 : (packL l).drop 0 = numForm l.length ++ bodyL l := rfl
  have e1 := getNum_put (p := 0) (by omega) (by omega) h0
  have d1 := drop_more h0
  have e2 := readC_put (b := packL l) (l := l) (more := []) (p := 0 + (numForm l.length).length) hs (by unfold packL; rw [List.length_append]; omega) (by rw [d1, List.append_nil])
  have e3 : 0 + (numForm l.length).length + (bodyL l).length = (packL l).length := by unfold packL; rw [List.length_append]; omega
  rw [e3] at e2
  unfold unpackT
  have e1' : getNum (packL l) 0 = (l.length, 0 + (numForm l.length).length, 0) := e1
  simp only [e1', e2, ne_eq, not_true_eq_false, if_false]
  simp
  rw [e1']
  simp only [e2]
  exact ⟨trivial, hr⟩
end Go.Proofs.Yteioopcacpihpaa

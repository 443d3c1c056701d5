/-
  Layer 1 as plain mathematics: what is put is read as it was, what is read is the one form, of a form that is cut off more is asked for. Nothing of the translated program is named here.
-/
import Derived.Test.YtaljojjpgkmiiaaSpecPack
namespace Go.Proofs.Ytaljojjpgkmiiaa

theorem numForm_lo {k : Nat} (h : k < 128) : numForm k = [UInt8.ofNat k] := by rw [numForm, if_pos h]
theorem numForm_hi {k : Nat} (h : 128 ≤ k) : numForm k = UInt8.ofNat (k % 128 + 128) :: numForm (k / 128) := by rw [numForm, if_neg (by omega)]
theorem ofNat_small {k : Nat} (h : k < 256) : (UInt8.ofNat k).toNat = k := by simp; omega
theorem numForm_pos (k : Nat) : 0 < (numForm k).length := by
  by_cases h : k < 128
  · rw [numForm_lo h]; simp
  · rw [numForm_hi (by omega)]; simp

/-! ### what is read is the one form -/
theorem readNum_pos : ∀ (l : List UInt8) (k : Nat), 0 < k → (readNum k l).2.2 = 0 → 0 < (readNum k l).1
  | [], k, _, h => by simp [readNum] at h
  | c :: cs, k, hk, h => by
    unfold readNum at h ⊢
    split at h
    · simp at h
    · next h1 =>
      rw [if_neg h1]
      split at h
      · next h2 => rw [if_pos h2]; simp only; omega
      · next h2 =>
        rw [if_neg h2]
        simp only at h ⊢
        split at h
        · next h3 =>
          rw [if_pos h3]
          have := readNum_pos cs (k + 1) (by omega) h3
          simp only
          omega
        · next h3 => simp [h3] at h
theorem readNum_one : ∀ (l : List UInt8) (k : Nat), (readNum k l).2.2 = 0 → numForm (readNum k l).1 = l.take (readNum k l).2.1
  | [], k, h => by simp [readNum] at h
  | c :: cs, k, h => by
    unfold readNum at h ⊢
    split at h
    · simp at h
    · next h1 =>
      rw [if_neg h1]
      split at h
      · next h2 => rw [if_pos h2]; simp only; rw [numForm_lo h2]; simp
      · next h2 =>
        rw [if_neg h2]
        simp only at h ⊢
        split at h
        · next h3 =>
          rw [if_pos h3]
          have hp := readNum_pos cs (k + 1) (by omega) h3
          have ih := readNum_one cs (k + 1) h3
          have hc := c.toNat_lt
          simp only
          rw [numForm_hi (by omega), List.take_succ_cons, ← ih]
          congr 1
          · apply UInt8.toNat_inj.1
            rw [ofNat_small (by omega)]
            omega
          · congr 1
            omega
        · next h3 => simp [h3] at h
theorem getNumAt_one {l : List UInt8} {p : Nat} (h : (getNumAt l p).2.2 = 0) : numForm (getNumAt l p).1 = (l.drop p).take ((getNumAt l p).2.1 - p) := by
  unfold getNumAt at h ⊢
  simp only at h ⊢
  split at h
  · next e =>
    rw [if_pos e]
    simp only
    rw [readNum_one _ _ e, Nat.add_sub_cancel_left]
  · next e => simp [e] at h
theorem getNum_one {l : List UInt8} {p : Int} (h : (getNum l p).2.2 = 0) : numForm (getNum l p).1 = (l.drop p.toNat).take ((getNum l p).2.1 - p.toNat) := by
  unfold getNum at h ⊢
  split at h
  · next e => rw [if_pos e]; exact getNumAt_one h
  · simp at h

/-- two pieces that lie end to end -/
theorem take_join (l : List UInt8) {a b c : Nat} (h1 : a ≤ b) (h2 : b ≤ c) : (l.drop a).take (b - a) ++ (l.drop b).take (c - b) = (l.drop a).take (c - a) := by
  have e : l.drop b = (l.drop a).drop (b - a) := by rw [List.drop_drop, show a + (b - a) = b from by omega]
  rw [e, show c - a = (b - a) + (c - b) from by omega, List.take_add]

theorem getText_one {l : List UInt8} {p most : Int} (h : (getText l p most).2.2 = 0) : textForm (getText l p most).1 = (l.drop p.toNat).take ((getText l p most).2.1 - p.toNat) := by
  unfold getText at h ⊢
  simp only at h ⊢
  split at h
  · next h1 => exact absurd h h1
  · next h1 =>
    rw [if_neg h1]
    have hb := getNum_bound (l := l) (p := p) (by omega)
    have ho := getNum_one (l := l) (p := p) (by omega)
    split at h
    · simp at h
    · next h2 =>
      rw [if_neg h2]
      split at h
      · simp at h
      · next h3 =>
        rw [if_neg h3]
        simp only
        have hlen : ((l.drop (getNum l p).2.1).take (getNum l p).1).length = (getNum l p).1 := by
          rw [List.length_take, List.length_drop]
          omega
        rw [textForm, hlen, ho]
        have := take_join l (a := p.toNat) (b := (getNum l p).2.1) (c := (getNum l p).2.1 + (getNum l p).1) (by omega) (by omega)
        rw [Nat.add_sub_cancel_left] at this
        exact this
theorem getText_place {l : List UInt8} {p most : Int} (h : (getText l p most).2.2 = 0) : 0 ≤ p ∧ p < (getText l p most).2.1 ∧ (getText l p most).2.1 ≤ l.length := by
  unfold getText at h ⊢
  simp only at h ⊢
  split at h
  · next h1 => exact absurd h h1
  · next h1 =>
    rw [if_neg h1]
    have hb := getNum_bound (l := l) (p := p) (by omega)
    split at h
    · simp at h
    · next h2 =>
      rw [if_neg h2]
      split at h
      · simp at h
      · next h3 =>
        rw [if_neg h3]
        simp only
        omega
theorem getTextsFrom_one (l : List UInt8) (most : Int) : ∀ (m p : Nat), p ≤ l.length → (getTextsFrom l most m p).2.2 = 0 →
    (getTextsFrom l most m p).1.length = m ∧ p ≤ (getTextsFrom l most m p).2.1 ∧ (getTextsFrom l most m p).2.1 ≤ l.length ∧ textsBody (getTextsFrom l most m p).1 = (l.drop p).take ((getTextsFrom l most m p).2.1 - p)
  | 0, p, hp, _ => by simp [getTextsFrom, textsBody, hp]
  | m + 1, p, hp, h => by
    unfold getTextsFrom at h ⊢
    simp only at h ⊢
    split at h
    · next h1 => exact absurd h h1
    · next h1 =>
      rw [if_neg h1]
      have hb := getText_place (l := l) (p := p) (most := most) (by omega)
      have ho := getText_one (l := l) (p := p) (most := most) (by omega)
      split at h
      · next h2 => exact absurd h h2
      · next h2 =>
        rw [if_neg h2]
        obtain ⟨i1, i2, i3, i4⟩ := getTextsFrom_one l most m (getText l p most).2.1 (by omega) (by omega)
        simp only [List.length_cons, textsBody]
        refine ⟨by omega, by omega, by omega, ?_⟩
        rw [ho, i4, Int.toNat_natCast]
        exact take_join l (by omega) (by omega)
theorem getTexts_one {l : List UInt8} {p count most : Int} (h : (getTexts l p count most).2.2 = 0) :
    0 ≤ p ∧ p < (getTexts l p count most).2.1 ∧ (getTexts l p count most).2.1 ≤ l.length ∧ textsForm (getTexts l p count most).1 = (l.drop p.toNat).take ((getTexts l p count most).2.1 - p.toNat) := by
  unfold getTexts at h ⊢
  simp only at h ⊢
  split at h
  · next h1 => exact absurd h h1
  · next h1 =>
    rw [if_neg h1]
    have hb := getNum_bound (l := l) (p := p) (by omega)
    have ho := getNum_one (l := l) (p := p) (by omega)
    split at h
    · simp at h
    · next h2 =>
      rw [if_neg h2]
      obtain ⟨i1, i2, i3, i4⟩ := getTextsFrom_one l most (getNum l p).1 (getNum l p).2.1 (by omega) h
      refine ⟨by omega, by omega, by omega, ?_⟩
      rw [textsForm, i1, ho, i4]
      exact take_join l (by omega) (by omega)
theorem getTexts_num {l : List UInt8} {p count most : Int} (h : (getTexts l p count most).2.2 = 0) : (getNum l p).2.2 = 0 := by
  unfold getTexts at h
  simp only at h
  split at h
  · next h1 => exact absurd h h1
  · next h1 => omega

/-! ### what is put is read as it was -/
theorem readNum_put : ∀ (j n k : Nat) (more : List UInt8), j + k = 8 → n < 128 ^ (j + 1) → (k = 0 ∨ 0 < n) → readNum k (numForm n ++ more) = (n, (numForm n).length, 0)
  | 0, n, k, more, hj, hn, hk => by
    have hn' : n < 128 := by simpa using hn
    rw [numForm_lo hn']
    have e := ofNat_small (k := n) (by omega)
    simp only [List.cons_append, List.nil_append, readNum, e]
    rw [if_neg (by omega), if_pos hn']
    simp
  | j + 1, n, k, more, hj, hn, hk => by
    by_cases h : n < 128
    · rw [numForm_lo h]
      have e := ofNat_small (k := n) (by omega)
      simp only [List.cons_append, List.nil_append, readNum, e]
      rw [if_neg (by omega), if_pos h]
      simp
    · rw [numForm_hi (by omega)]
      have e := ofNat_small (k := n % 128 + 128) (by omega)
      have ih := readNum_put j (n / 128) (k + 1) more (by omega) (by rw [Nat.pow_succ] at hn; omega) (by omega)
      simp only [List.cons_append, readNum, e, ih]
      rw [if_neg (by omega), if_neg (by omega)]
      simp only [if_true, List.length_cons, Prod.mk.injEq, and_true]
      omega
theorem readNum_put0 {n : Nat} (h : n < 9223372036854775808) (more : List UInt8) : readNum 0 (numForm n ++ more) = (n, (numForm n).length, 0) :=
  readNum_put 8 n 0 more rfl (by omega) (.inl rfl)
theorem getNum_put {l more : List UInt8} {n p : Nat} (hn : n < 9223372036854775808) (hp : p ≤ l.length) (h : l.drop p = numForm n ++ more) : getNum l p = (n, p + (numForm n).length, 0) := by
  unfold getNum
  rw [if_pos (by omega), Int.toNat_natCast]
  unfold getNumAt
  rw [h, readNum_put0 hn]
  simp
theorem drop_more {l a more : List UInt8} {p : Nat} (h : l.drop p = a ++ more) : l.drop (p + a.length) = more := by
  rw [← List.drop_drop, h]
  simp
theorem drop_len {l a : List UInt8} {p : Nat} (h : l.drop p = a) (hp : p ≤ l.length) : l.length = p + a.length := by
  have := congrArg List.length h
  rw [List.length_drop] at this
  omega
theorem getText_put {l s more : List UInt8} {p : Nat} {most : Int} (hs : s.length < 9223372036854775808) (hm : s.length ≤ most) (hp : p ≤ l.length) (h : l.drop p = textForm s ++ more) :
    getText l p most = (s, p + (textForm s).length, 0) := by
  have h' : l.drop p = numForm s.length ++ (s ++ more) := by rw [h, textForm, List.append_assoc]
  have hlen := drop_len h' hp
  simp only [List.length_append] at hlen
  unfold getText
  rw [getNum_put hs hp h']
  simp only
  rw [if_neg (by omega), if_neg (by omega), if_neg (by omega)]
  rw [drop_more h', textForm, List.length_append]
  simp only [List.take_left, Prod.mk.injEq, and_true, true_and]
  omega
theorem getTextsFrom_put (most : Int) : ∀ (L : List (List UInt8)) (l more : List UInt8) (p : Nat), (∀ s ∈ L, s.length < 9223372036854775808 ∧ s.length ≤ most) → p ≤ l.length → l.drop p = textsBody L ++ more →
    getTextsFrom l most L.length p = (L, p + (textsBody L).length, 0)
  | [], l, more, p, _, _, _ => by simp [getTextsFrom, textsBody]
  | s :: L, l, more, p, hL, hp, h => by
    have h' : l.drop p = textForm s ++ (textsBody L ++ more) := by rw [h, textsBody, List.append_assoc]
    have hlen := drop_len h' hp
    simp only [List.length_append] at hlen
    have h1 := getText_put (hL s (by simp)).1 (hL s (by simp)).2 hp h'
    have h2 := getTextsFrom_put most L l more (p + (textForm s).length) (fun x hx => hL x (by simp [hx])) (by omega) (drop_more h')
    simp only [List.length_cons, getTextsFrom, h1, h2]
    simp only [ne_eq, not_true_eq_false, if_false, textsBody, List.length_append, Prod.mk.injEq, and_true, true_and]
    omega
theorem getTexts_put {L : List (List UInt8)} {l more : List UInt8} {p : Nat} {count most : Int} (hL : ∀ s ∈ L, s.length < 9223372036854775808 ∧ s.length ≤ most) (hn : L.length < 9223372036854775808) (hc : L.length ≤ count)
    (hp : p ≤ l.length) (h : l.drop p = textsForm L ++ more) : getTexts l p count most = (L, p + (textsForm L).length, 0) := by
  have h' : l.drop p = numForm L.length ++ (textsBody L ++ more) := by rw [h, textsForm, List.append_assoc]
  have hlen := drop_len h' hp
  simp only [List.length_append] at hlen
  unfold getTexts
  rw [getNum_put hn hp h']
  simp only
  rw [if_neg (by omega), if_neg (by omega), getTextsFrom_put most L l more _ hL (by omega) (drop_more h')]
  simp only [textsForm, List.length_append, Prod.mk.injEq, and_true, true_and]
  omega

/-! ### of a form that is cut off more is asked for -/
theorem readNum_cut : ∀ (j n k i : Nat), j + k = 8 → n < 128 ^ (j + 1) → i < (numForm n).length → readNum k ((numForm n).take i) = (0, 0, 2)
  | _, n, k, 0, _, _, _ => by simp [readNum]
  | 0, n, k, i + 1, hj, hn, hi => by
    have hn' : n < 128 := by simpa using hn
    rw [numForm_lo hn'] at hi
    simp at hi
  | j + 1, n, k, i + 1, hj, hn, hi => by
    by_cases h : n < 128
    · rw [numForm_lo h] at hi
      simp at hi
    · rw [numForm_hi (by omega)] at hi ⊢
      have e := ofNat_small (k := n % 128 + 128) (by omega)
      have ih := readNum_cut j (n / 128) (k + 1) i (by omega) (by rw [Nat.pow_succ] at hn; omega) (by simpa using hi)
      simp only [List.take_succ_cons, readNum, e, ih]
      rw [if_neg (by omega), if_neg (by omega)]
      simp
theorem getNum_cut {l : List UInt8} {n p i : Nat} (hn : n < 9223372036854775808) (hp : p ≤ l.length) (hi : i < (numForm n).length) (h : l.drop p = (numForm n).take i) : getNum l p = (0, 0, 2) := by
  unfold getNum
  rw [if_pos (by omega), Int.toNat_natCast]
  unfold getNumAt
  rw [h, readNum_cut 8 n 0 i rfl (by omega) hi]
  simp
theorem getText_cut {l s : List UInt8} {p i : Nat} {most : Int} (hs : s.length < 9223372036854775808) (hm : s.length ≤ most) (hp : p ≤ l.length) (hi : i < (textForm s).length) (h : l.drop p = (textForm s).take i) :
    getText l p most = ([], 0, 2) := by
  rw [textForm, List.length_append] at hi
  unfold getText
  by_cases h1 : i < (numForm s.length).length
  · have h' : l.drop p = (numForm s.length).take i := by rw [h, textForm, List.take_append_of_le_length (by omega)]
    rw [getNum_cut hs hp h1 h']
    simp
  · have h' : l.drop p = numForm s.length ++ s.take (i - (numForm s.length).length) := by
      rw [h, textForm, List.take_append, List.take_of_length_le (by omega)]
    have hlen := drop_len h' hp
    simp only [List.length_append, List.length_take] at hlen
    rw [getNum_put hs hp h']
    simp only
    rw [if_neg (by omega), if_neg (by omega), if_pos (by omega)]
theorem getTextsFrom_cut (most : Int) : ∀ (L : List (List UInt8)) (l : List UInt8) (p i : Nat), (∀ s ∈ L, s.length < 9223372036854775808 ∧ s.length ≤ most) → p ≤ l.length → i < (textsBody L).length → l.drop p = (textsBody L).take i →
    getTextsFrom l most L.length p = ([], 0, 2)
  | [], l, p, i, _, _, hi, _ => by simp [textsBody] at hi
  | s :: L, l, p, i, hL, hp, hi, h => by
    rw [textsBody, List.length_append] at hi
    by_cases h1 : i < (textForm s).length
    · have h' : l.drop p = (textForm s).take i := by rw [h, textsBody, List.take_append_of_le_length (by omega)]
      have := getText_cut (most := most) (hL s (by simp)).1 (hL s (by simp)).2 hp h1 h'
      simp [getTextsFrom, this]
    · have h' : l.drop p = textForm s ++ (textsBody L).take (i - (textForm s).length) := by
        rw [h, textsBody, List.take_append, List.take_of_length_le (by omega)]
      have hlen := drop_len h' hp
      simp only [List.length_append, List.length_take] at hlen
      have e1 := getText_put (hL s (by simp)).1 (hL s (by simp)).2 hp h'
      have e2 := getTextsFrom_cut most L l (p + (textForm s).length) (i - (textForm s).length) (fun x hx => hL x (by simp [hx])) (by omega) (by omega) (drop_more h')
      simp [getTextsFrom, e1, e2]
theorem getTexts_cut {L : List (List UInt8)} {l : List UInt8} {p i : Nat} {count most : Int} (hL : ∀ s ∈ L, s.length < 9223372036854775808 ∧ s.length ≤ most) (hn : L.length < 9223372036854775808) (hc : L.length ≤ count)
    (hp : p ≤ l.length) (hi : i < (textsForm L).length) (h : l.drop p = (textsForm L).take i) : getTexts l p count most = ([], 0, 2) := by
  rw [textsForm, List.length_append] at hi
  unfold getTexts
  by_cases h1 : i < (numForm L.length).length
  · have h' : l.drop p = (numForm L.length).take i := by rw [h, textsForm, List.take_append_of_le_length (by omega)]
    rw [getNum_cut hn hp h1 h']
    simp
  · have h' : l.drop p = numForm L.length ++ (textsBody L).take (i - (numForm L.length).length) := by
      rw [h, textsForm, List.take_append, List.take_of_length_le (by omega)]
    have hlen := drop_len h' hp
    simp only [List.length_append, List.length_take] at hlen
    rw [getNum_put hn hp h']
    simp only
    rw [if_neg (by omega), if_neg (by omega)]
    exact getTextsFrom_cut most L l _ (i - (numForm L.length).length) hL (by omega) (by omega) (drop_more h')

end Go.Proofs.Ytaljojjpgkmiiaa

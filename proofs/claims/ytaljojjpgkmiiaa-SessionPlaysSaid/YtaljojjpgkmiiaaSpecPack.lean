/-
  Layer 1 as plain mathematics: the forms of numbers, texts and lists of texts as lists of bytes, and their readers. Nothing of the translated program is named here.
-/
namespace Go.Proofs.Ytaljojjpgkmiiaa

/-- the form of a number -/
def numForm (n : Nat) : List UInt8 :=
  if n < 128 then [UInt8.ofNat n] else UInt8.ofNat (n % 128 + 128) :: numForm (n / 128)
termination_by n

/-- the form of a text -/
def textForm (s : List UInt8) : List UInt8 := numForm s.length ++ s

/-- the forms of texts, one behind the other -/
def textsBody : List (List UInt8) → List UInt8
  | [] => []
  | s :: r => textForm s ++ textsBody r

/-- the form of a list of texts -/
def textsForm (l : List (List UInt8)) : List UInt8 := numForm l.length ++ textsBody l

/-- reading a number whose byte number k comes next: the number, the bytes used, the error -/
def readNum : Nat → List UInt8 → Nat × Nat × Nat
  | _, [] => (0, 0, 2)
  | k, c :: cs =>
    if (128 ≤ c.toNat ∧ k = 8) ∨ (c.toNat = 0 ∧ 0 < k) then (0, 0, 3)
    else if c.toNat < 128 then (c.toNat, 1, 0)
    else
      let r := readNum (k + 1) cs
      if r.2.2 = 0 then (c.toNat % 128 + 128 * r.1, r.2.1 + 1, 0) else (0, 0, r.2.2)

/-- what stands ahead (k bytes, worth x), joined with what is read behind -/
def joinNum (k x : Nat) (r : Nat × Nat × Nat) : Nat × Nat × Nat :=
  if r.2.2 = 0 then (x + 128 ^ k * r.1, k + r.2.1, 0) else (0, 0, r.2.2)

/-- GetNum at a place within the bytes -/
def getNumAt (l : List UInt8) (p : Nat) : Nat × Nat × Nat :=
  let r := readNum 0 (l.drop p)
  if r.2.2 = 0 then (r.1, p + r.2.1, 0) else (0, 0, r.2.2)

/-- GetNum -/
def getNum (l : List UInt8) (p : Int) : Nat × Nat × Nat :=
  if 0 ≤ p ∧ p ≤ l.length then getNumAt l p.toNat else (0, 0, 1)

/-- GetText at a place within the bytes -/
def getText (l : List UInt8) (p most : Int) : List UInt8 × Nat × Nat :=
  let r := getNum l p
  if r.2.2 ≠ 0 then ([], 0, r.2.2)
  else if most < r.1 then ([], 0, 4)
  else if l.length - r.2.1 < r.1 then ([], 0, 2)
  else ((l.drop r.2.1).take r.1, r.2.1 + r.1, 0)

/-- the texts of a list, read one by one from the place p on -/
def getTextsFrom (l : List UInt8) (most : Int) : Nat → Nat → List (List UInt8) × Nat × Nat
  | 0, p => ([], p, 0)
  | m + 1, p =>
    let r := getText l p most
    if r.2.2 ≠ 0 then ([], 0, r.2.2)
    else
      let q := getTextsFrom l most m r.2.1
      if q.2.2 ≠ 0 then ([], 0, q.2.2) else (r.1 :: q.1, q.2.1, 0)

/-- GetTexts -/
def getTexts (l : List UInt8) (p count most : Int) : List (List UInt8) × Nat × Nat :=
  let r := getNum l p
  if r.2.2 ≠ 0 then ([], 0, r.2.2)
  else if count < r.1 then ([], 0, 4)
  else getTextsFrom l most r.1 r.2.1

/-! ### readNum, step by step -/
theorem readNum_err (k : Nat) (l : List UInt8) (h : (readNum k l).2.2 ≠ 0) : readNum k l = (0, 0, (readNum k l).2.2) := by
  cases l with
  | nil => simp [readNum]
  | cons c cs =>
    unfold readNum at h ⊢
    split
    · rfl
    · split
      · simp_all
      · simp only
        split
        · simp_all
        · rfl

theorem joinNum_zero (r : Nat × Nat × Nat) (h : r.2.2 ≠ 0 → r = (0, 0, r.2.2)) : joinNum 0 0 r = r := by
  unfold joinNum
  split
  · next e => obtain ⟨a, b, c⟩ := r; simp_all
  · next e => exact (h e).symm

theorem readNum_start (l : List UInt8) : readNum 0 l = joinNum 0 0 (readNum 0 l) := (joinNum_zero _ (readNum_err 0 l)).symm

theorem readNum_form {k x : Nat} {c : UInt8} {cs : List UInt8} (h : (128 ≤ c.toNat ∧ k = 8) ∨ (c.toNat = 0 ∧ 0 < k)) : joinNum k x (readNum k (c :: cs)) = (0, 0, 3) := by
  simp [readNum, joinNum, h]

theorem readNum_last {k x : Nat} {c : UInt8} {cs : List UInt8} (h : ¬ (c.toNat = 0 ∧ 0 < k)) (hc : c.toNat < 128) : joinNum k x (readNum k (c :: cs)) = (x + 128 ^ k * c.toNat, k + 1, 0) := by
  have h1 : ¬ ((128 ≤ c.toNat ∧ k = 8) ∨ (c.toNat = 0 ∧ 0 < k)) := by omega
  simp [readNum, joinNum, h1, hc]

theorem readNum_more {k x : Nat} {c : UInt8} {cs : List UInt8} (hk : k ≠ 8) (hc : 128 ≤ c.toNat) :
    joinNum k x (readNum k (c :: cs)) = joinNum (k + 1) (x + 128 ^ k * (c.toNat % 128)) (readNum (k + 1) cs) := by
  have h1 : ¬ ((128 ≤ c.toNat ∧ k = 8) ∨ (c.toNat = 0 ∧ 0 < k)) := by omega
  have h2 : ¬ c.toNat < 128 := by omega
  simp only [readNum, joinNum, h1, h2, if_false]
  by_cases e : (readNum (k + 1) cs).2.2 = 0
  · simp only [e, if_true, Prod.mk.injEq, and_true]
    refine ⟨?_, by omega⟩
    rw [Nat.mul_add, Nat.pow_succ, Nat.mul_assoc, Nat.add_assoc]
  · simp [e]

theorem readNum_nil (k x : Nat) : joinNum k x (readNum k []) = (0, 0, 2) := by simp [readNum, joinNum]

theorem getNumAt_of {l : List UInt8} {p a b e : Nat} (h : readNum 0 (l.drop p) = (a, b, e)) : getNumAt l p = if e = 0 then (a, p + b, 0) else (0, 0, e) := by
  simp [getNumAt, h]

/-- a number that is read is below 2^63 (more exactly: what stands at byte k fits the bits that are left), and the bytes are there -/
theorem readNum_bound : ∀ (l : List UInt8) (k : Nat), k ≤ 8 → (readNum k l).2.2 = 0 → (readNum k l).1 < 128 ^ (9 - k) ∧ 1 ≤ (readNum k l).2.1 ∧ (readNum k l).2.1 ≤ l.length ∧ (readNum k l).2.1 ≤ 9 - k
  | [], k, _, h => by simp [readNum] at h
  | c :: cs, k, hk, h => by
    unfold readNum at h ⊢
    split at h
    · simp at h
    · next h1 =>
      rw [if_neg h1]
      split at h
      · next h2 =>
        rw [if_pos h2]
        refine ⟨?_, by simp, by simp, by simp; omega⟩
        have : 128 ^ 1 ≤ 128 ^ (9 - k) := Nat.pow_le_pow_right (by omega) (by omega)
        simp at this ⊢
        omega
      · next h2 =>
        rw [if_neg h2]
        simp only at h ⊢
        split at h
        · next h3 =>
          rw [if_pos h3]
          have hk8 : k ≠ 8 := by omega
          obtain ⟨b1, b2, b3, b4⟩ := readNum_bound cs (k + 1) (by omega) h3
          have e : 9 - k = (9 - (k + 1)) + 1 := by omega
          rw [e, Nat.pow_succ]
          refine ⟨?_, by simp, by simp; omega, by simp; omega⟩
          simp only
          have : c.toNat % 128 < 128 := Nat.mod_lt _ (by omega)
          omega
        · next h3 => simp [h3] at h

theorem getNumAt_bound {l : List UInt8} {p : Nat} (h : (getNumAt l p).2.2 = 0) : (getNumAt l p).1 < 9223372036854775808 ∧ p < (getNumAt l p).2.1 ∧ (getNumAt l p).2.1 ≤ l.length ∧ (getNumAt l p).2.1 ≤ p + 9 := by
  unfold getNumAt at h ⊢
  simp only at h ⊢
  split at h
  · next e =>
    rw [if_pos e]
    obtain ⟨b1, b2, b3, b4⟩ := readNum_bound (l.drop p) 0 (by omega) e
    simp only [List.length_drop] at b3
    refine ⟨by simpa using b1, by simp only; omega, by simp only; omega, by simp only; omega⟩
  · next e => simp [e] at h

theorem getNum_bound {l : List UInt8} {p : Int} (h : (getNum l p).2.2 = 0) : 0 ≤ p ∧ (getNum l p).1 < 9223372036854775808 ∧ p < (getNum l p).2.1 ∧ (getNum l p).2.1 ≤ l.length := by
  unfold getNum at h ⊢
  split at h
  · next e =>
    rw [if_pos e]
    have := getNumAt_bound h
    omega
  · simp at h

theorem getNum_err {l : List UInt8} {p : Int} (h : (getNum l p).2.2 ≠ 0) : getNum l p = (0, 0, (getNum l p).2.2) := by
  unfold getNum getNumAt at *
  simp only at *
  split
  · next e =>
    rw [if_pos e] at h
    split at h
    · simp at h
    · next e2 => rw [if_neg e2]
  · rfl

theorem getNum_e_lt (l : List UInt8) (p : Int) : (getNum l p).2.2 ≤ 3 := by
  have aux : ∀ (l : List UInt8) (k : Nat), (readNum k l).2.2 ≤ 3 := by
    intro l
    induction l with
    | nil => intro k; simp [readNum]
    | cons c cs ih =>
      intro k
      unfold readNum
      split
      · simp
      · split
        · simp
        · simp only
          split
          · simp
          · exact ih _
  unfold getNum getNumAt
  simp only
  split
  · split
    · simp
    · exact aux _ _
  · simp

end Go.Proofs.Ytaljojjpgkmiiaa

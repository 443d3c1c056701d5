/-
  Layer 2 as plain mathematics: the check sum of bytes on natural numbers, that its steps lose nothing, and the four bytes of a sum. Nothing of the translated program is named here.
-/
namespace Go.Proofs.Ytghcmlipbmmfjaa

/-- the polynomial -/
def sumPoly : Nat := 3988292384
/-- one bit taken out -/
def sumStep (c : Nat) : Nat := if c % 2 = 1 then c / 2 ^^^ 3988292384 else c / 2
/-- k bits taken out -/
def sumSteps : Nat → Nat → Nat
  | 0, c => c
  | k + 1, c => sumSteps k (sumStep c)
/-- how far the steps got behind bytes -/
def sumRest : Nat → List UInt8 → Nat
  | c, [] => c
  | c, b :: l => sumRest (sumSteps 8 (c ^^^ b.toNat)) l
/-- the sum of what had that sum, and more bytes behind it -/
def sumMore (s : Nat) (l : List UInt8) : Nat := 4294967295 - sumRest (4294967295 - s) l
def sumOf (l : List UInt8) : Nat := sumMore 0 l

theorem sumSteps_succ (k c : Nat) : sumSteps (k + 1) c = sumStep (sumSteps k c) := by
  induction k generalizing c with
  | zero => rfl
  | succ k ih => rw [sumSteps, ih, sumSteps]

theorem sumStep_lt {c : Nat} (h : c < 4294967296) : sumStep c < 4294967296 := by
  unfold sumStep
  split
  · exact Nat.xor_lt_two_pow (n := 32) (by omega) (by omega)
  · omega
theorem sumSteps_lt {k c : Nat} (h : c < 4294967296) : sumSteps k c < 4294967296 := by
  induction k generalizing c with
  | zero => exact h
  | succ k ih => exact ih (sumStep_lt h)
theorem xor_byte_lt {c : Nat} (h : c < 4294967296) (b : UInt8) : c ^^^ b.toNat < 4294967296 := by
  have := b.toNat_lt
  exact Nat.xor_lt_two_pow (n := 32) (by omega) (by omega)
theorem sumRest_lt {c : Nat} (l : List UInt8) (h : c < 4294967296) : sumRest c l < 4294967296 := by
  induction l generalizing c with
  | nil => exact h
  | cons b l ih => exact ih (sumSteps_lt (xor_byte_lt h b))
theorem sumMore_lt (s : Nat) (l : List UInt8) : sumMore s l < 4294967296 := by unfold sumMore; omega
theorem sumRest_app (c : Nat) (a b : List UInt8) : sumRest c (a ++ b) = sumRest (sumRest c a) b := by
  induction a generalizing c with
  | nil => rfl
  | cons x a ih => exact ih _
theorem sumRest_snoc (c : Nat) (a : List UInt8) (b : UInt8) : sumRest c (a ++ [b]) = sumSteps 8 (sumRest c a ^^^ b.toNat) := by rw [sumRest_app]; rfl
theorem sumMore_app {s : Nat} (h : s < 4294967296) (a b : List UInt8) : sumMore (sumMore s a) b = sumMore s (a ++ b) := by
  have := sumRest_lt a (c := 4294967295 - s) (by omega)
  unfold sumMore
  rw [sumRest_app, show 4294967295 - (4294967295 - sumRest (4294967295 - s) a) = sumRest (4294967295 - s) a from by omega]
theorem sumMore_nil {s : Nat} (h : s < 4294967296) : sumMore s [] = s := by unfold sumMore sumRest; omega

/-! ### nothing is lost -/
theorem xor_cancel {a b c : Nat} (h : a ^^^ c = b ^^^ c) : a = b := by
  have := congrArg (· ^^^ c) h
  simpa [Nat.xor_assoc] using this
theorem sumStep_inj {a b : Nat} (ha : a < 4294967296) (hb : b < 4294967296) (h : sumStep a = sumStep b) : a = b := by
  have top : ∀ x : Nat, x < 4294967296 → (x / 2).testBit 31 = false := fun x hx => Nat.testBit_lt_two_pow (by omega)
  have hp : (3988292384 : Nat).testBit 31 = true := by decide
  unfold sumStep at h
  split at h
  · split at h
    · have := xor_cancel h
      omega
    · have := congrArg (fun x => x.testBit 31) h
      simp only [Nat.testBit_xor, top a ha, top b hb, hp] at this
      exact absurd this (by decide)
  · split at h
    · have := congrArg (fun x => x.testBit 31) h
      simp only [Nat.testBit_xor, top a ha, top b hb, hp] at this
      exact absurd this (by decide)
    · omega
theorem sumSteps_inj {k a b : Nat} (ha : a < 4294967296) (hb : b < 4294967296) (h : sumSteps k a = sumSteps k b) : a = b := by
  induction k generalizing a b with
  | zero => exact h
  | succ k ih => exact sumStep_inj ha hb (ih (sumStep_lt ha) (sumStep_lt hb) h)
theorem sumRest_inj (l : List UInt8) {a b : Nat} (ha : a < 4294967296) (hb : b < 4294967296) (h : sumRest a l = sumRest b l) : a = b := by
  induction l generalizing a b with
  | nil => exact h
  | cons x l ih => exact xor_cancel (sumSteps_inj (xor_byte_lt ha x) (xor_byte_lt hb x) (ih (sumSteps_lt (xor_byte_lt ha x)) (sumSteps_lt (xor_byte_lt hb x)) h))
/-- two rows of bytes that differ in one byte have unlike sums -/
theorem sum_tells (pre post : List UInt8) (x y : UInt8) (h : sumOf (pre ++ x :: post) = sumOf (pre ++ y :: post)) : x = y := by
  have hl := fun z : UInt8 => sumRest_lt (c := 4294967295) (pre ++ z :: post) (by omega)
  have h1 : sumRest 4294967295 (pre ++ x :: post) = sumRest 4294967295 (pre ++ y :: post) := by
    have := hl x; have := hl y
    unfold sumOf sumMore at h
    simp only [Nat.sub_zero] at h
    omega
  rw [sumRest_app, sumRest_app] at h1
  have hs := sumRest_lt (c := 4294967295) pre (by omega)
  have h2 := sumRest_inj post (sumSteps_lt (xor_byte_lt hs x)) (sumSteps_lt (xor_byte_lt hs y)) h1
  have h3 := sumSteps_inj (xor_byte_lt hs x) (xor_byte_lt hs y) h2
  rw [Nat.xor_comm _ x.toNat, Nat.xor_comm _ y.toNat] at h3
  exact UInt8.toNat_inj.1 (xor_cancel h3)
theorem sum_tells_set (l : List UInt8) (j : Nat) (x y : UInt8) (hj : j < l.length) (h : sumOf (l.set j x) = sumOf (l.set j y)) : x = y := by
  have e : ∀ z, l.set j z = l.take j ++ z :: l.drop (j + 1) := fun z => by rw [List.set_eq_take_append_cons_drop, if_pos hj]
  rw [e, e] at h
  exact sum_tells _ _ _ _ h

/-! ### four bytes -/
def sumPut (n : Nat) : List UInt8 := [UInt8.ofNat (n / 16777216), UInt8.ofNat (n / 65536 % 256), UInt8.ofNat (n / 256 % 256), UInt8.ofNat (n % 256)]
def sumNum : Nat → List UInt8 → Nat
  | x, [] => x
  | x, b :: l => sumNum (x * 256 + b.toNat) l
theorem sumPut_len (n : Nat) : (sumPut n).length = 4 := rfl
theorem sumNum_put {n : Nat} (h : n < 4294967296) : sumNum 0 (sumPut n) = n := by
  simp [sumPut, sumNum]
  omega
theorem sumPut_num {l : List UInt8} (h : l.length = 4) : sumPut (sumNum 0 l) = l := by
  match l, h with
  | [a, b, c, d], _ =>
    have ha := a.toNat_lt; have hb := b.toNat_lt; have hc := c.toNat_lt; have hd := d.toNat_lt
    simp only [sumPut, sumNum, Nat.zero_mul, Nat.zero_add, List.cons.injEq, and_true]
    refine ⟨?_, ?_, ?_, ?_⟩ <;> refine UInt8.toNat_inj.1 ?_ <;> simp <;> omega
theorem sumNum_snoc (x : Nat) (l : List UInt8) (b : UInt8) : sumNum x (l ++ [b]) = sumNum x l * 256 + b.toNat := by
  induction l generalizing x with
  | nil => rfl
  | cons y l ih => exact ih _
theorem sumNum_lt (l : List UInt8) : sumNum 0 l < 256 ^ l.length := by
  have : ∀ (l : List UInt8) (x k : Nat), x < 256 ^ k → sumNum x l < 256 ^ (k + l.length) := by
    intro l
    induction l with
    | nil => intro x k h; simpa [sumNum] using h
    | cons b l ih =>
      intro x k h
      have hb := b.toNat_lt
      have := ih (x * 256 + b.toNat) (k + 1) (by rw [Nat.pow_succ]; omega)
      simp only [sumNum, List.length_cons]
      rw [show k + (l.length + 1) = k + 1 + l.length from by omega]
      exact this
  simpa using this l 0 0 (by simp)

end Go.Proofs.Ytghcmlipbmmfjaa

/-
  Layer 1 as plain mathematics: what is put is read as it was, what is read is the one form, of a form that is cut off more is asked for. Nothing of the translated program is named here.
-/
import Derived.Test.YtdfhnjocpfjagaaRows
import Derived.Test.YtdfhnjocpfjagaaOwn
import Derived.WalkKit
import Derived.WalkSpells
import Derived.Lib.Hide
import Derived.IntWalk
import Derived.BigQuiet
import Derived.Deep.QuietTactic
import Derived.Test.YtdfhnjocpfjagaaAppend
import Derived.Lib.AppendStr
import Derived.WalkLawsBesides
import Derived.Test.YtdfhnjocpfjagaaStep
import Derived.Test.YtdfhnjocpfjagaaGrew
namespace Go.Proofs.Ytdfhnjocpfjagaa

/-- the form of a number -/
def numForm (n : Nat) : List UInt8 :=
  if n < 128 then [UInt8.ofNat n] else UInt8.ofNat (n % 128 + 128) :: numForm (n / 128)
termination_by n

/-- the form of a text -/
def textForm (s : List UInt8) : List UInt8 := numForm s.length ++ s

/-- the forms of texts, one behind the other -/
def textsBody : List (List UInt8) → List UInt8
  | [] => []
  | s :: r => textForm s ++ textsBody r

/-- the form of a list of texts -/
def textsForm (l : List (List UInt8)) : List UInt8 := numForm l.length ++ textsBody l

/-- reading a number whose byte number k comes next: the number, the bytes used, the error -/
def readNum : Nat → List UInt8 → Nat × Nat × Nat
  | _, [] => (0, 0, 2)
  | k, c :: cs =>
    if (128 ≤ c.toNat ∧ k = 8) ∨ (c.toNat = 0 ∧ 0 < k) then (0, 0, 3)
    else if c.toNat < 128 then (c.toNat, 1, 0)
    else
      let r := readNum (k + 1) cs
      if r.2.2 = 0 then (c.toNat % 128 + 128 * r.1, r.2.1 + 1, 0) else (0, 0, r.2.2)

/-- what stands ahead (k bytes, worth x), joined with what is read behind -/
def joinNum (k x : Nat) (r : Nat × Nat × Nat) : Nat × Nat × Nat :=
  if r.2.2 = 0 then (x + 128 ^ k * r.1, k + r.2.1, 0) else (0, 0, r.2.2)

/-- GetNum at a place within the bytes -/
def getNumAt (l : List UInt8) (p : Nat) : Nat × Nat × Nat :=
  let r := readNum 0 (l.drop p)
  if r.2.2 = 0 then (r.1, p + r.2.1, 0) else (0, 0, r.2.2)

/-- GetNum -/
def getNum (l : List UInt8) (p : Int) : Nat × Nat × Nat :=
  if 0 ≤ p ∧ p ≤ l.length then getNumAt l p.toNat else (0, 0, 1)

/-- GetText at a place within the bytes -/
def getText (l : List UInt8) (p most : Int) : List UInt8 × Nat × Nat :=
  let r := getNum l p
  if r.2.2 ≠ 0 then ([], 0, r.2.2)
  else if most < r.1 then ([], 0, 4)
  else if l.length - r.2.1 < r.1 then ([], 0, 2)
  else ((l.drop r.2.1).take r.1, r.2.1 + r.1, 0)

/-- the texts of a list, read one by one from the place p on -/
def getTextsFrom (l : List UInt8) (most : Int) : Nat → Nat → List (List UInt8) × Nat × Nat
  | 0, p => ([], p, 0)
  | m + 1, p =>
    let r := getText l p most
    if r.2.2 ≠ 0 then ([], 0, r.2.2)
    else
      let q := getTextsFrom l most m r.2.1
      if q.2.2 ≠ 0 then ([], 0, q.2.2) else (r.1 :: q.1, q.2.1, 0)

/-- GetTexts -/
def getTexts (l : List UInt8) (p count most : Int) : List (List UInt8) × Nat × Nat :=
  let r := getNum l p
  if r.2.2 ≠ 0 then ([], 0, r.2.2)
  else if count < r.1 then ([], 0, 4)
  else getTextsFrom l most r.1 r.2.1

/-! ### readNum, step by step -/
theorem readNum_err (k : Nat) (l : List UInt8) (h : (readNum k l).2.2 ≠ 0) : readNum k l = (0, 0, (readNum k l).2.2) := by
  cases l with
  | nil => simp [readNum]
  | cons c cs =>
    unfold readNum at h ⊢
    split
    · rfl
    · split
      · simp_all
      · simp only
        split
        · simp_all
        · rfl

theorem joinNum_zero (r : Nat × Nat × Nat) (h : r.2.2 ≠ 0 → r = (0, 0, r.2.2)) : joinNum 0 0 r = r := by
  unfold joinNum
  split
  · next e => obtain ⟨a, b, c⟩ := r; simp_all
  · next e => exact (h e).symm

theorem readNum_start (l : List UInt8) : readNum 0 l = joinNum 0 0 (readNum 0 l) := (joinNum_zero _ (readNum_err 0 l)).symm

theorem readNum_form {k x : Nat} {c : UInt8} {cs : List UInt8} (h : (128 ≤ c.toNat ∧ k = 8) ∨ (c.toNat = 0 ∧ 0 < k)) : joinNum k x (readNum k (c :: cs)) = (0, 0, 3) := by
  simp [readNum, joinNum, h]

theorem readNum_last {k x : Nat} {c : UInt8} {cs : List UInt8} (h : ¬ (c.toNat = 0 ∧ 0 < k)) (hc : c.toNat < 128) : joinNum k x (readNum k (c :: cs)) = (x + 128 ^ k * c.toNat, k + 1, 0) := by
  have h1 : ¬ ((128 ≤ c.toNat ∧ k = 8) ∨ (c.toNat = 0 ∧ 0 < k)) := by omega
  simp [readNum, joinNum, h1, hc]

theorem readNum_more {k x : Nat} {c : UInt8} {cs : List UInt8} (hk : k ≠ 8) (hc : 128 ≤ c.toNat) :
    joinNum k x (readNum k (c :: cs)) = joinNum (k + 1) (x + 128 ^ k * (c.toNat % 128)) (readNum (k + 1) cs) := by
  have h1 : ¬ ((128 ≤ c.toNat ∧ k = 8) ∨ (c.toNat = 0 ∧ 0 < k)) := by omega
  have h2 : ¬ c.toNat < 128 := by omega
  simp only [readNum, joinNum, h1, h2, if_false]
  by_cases e : (readNum (k + 1) cs).2.2 = 0
  · simp only [e, if_true, Prod.mk.injEq, and_true]
    refine ⟨?_, by omega⟩
    rw [Nat.mul_add, Nat.pow_succ, Nat.mul_assoc, Nat.add_assoc]
  · simp [e]

theorem readNum_nil (k x : Nat) : joinNum k x (readNum k []) = (0, 0, 2) := by simp [readNum, joinNum]

theorem getNumAt_of {l : List UInt8} {p a b e : Nat} (h : readNum 0 (l.drop p) = (a, b, e)) : getNumAt l p = if e = 0 then (a, p + b, 0) else (0, 0, e) := by
  simp [getNumAt, h]

/-- a number that is read is below 2^63 (more exactly: what stands at byte k fits the bits that are left), and the bytes are there -/
theorem readNum_bound : ∀ (l : List UInt8) (k : Nat), k ≤ 8 → (readNum k l).2.2 = 0 → (readNum k l).1 < 128 ^ (9 - k) ∧ 1 ≤ (readNum k l).2.1 ∧ (readNum k l).2.1 ≤ l.length ∧ (readNum k l).2.1 ≤ 9 - k
  | [], k, _, h => by simp [readNum] at h
  | c :: cs, k, hk, h => by
    unfold readNum at h ⊢
    split at h
    · simp at h
    · next h1 =>
      rw [if_neg h1]
      split at h
      · next h2 =>
        rw [if_pos h2]
        refine ⟨?_, by simp, by simp, by simp; omega⟩
        have : 128 ^ 1 ≤ 128 ^ (9 - k) := Nat.pow_le_pow_right (by omega) (by omega)
        simp at this ⊢
        omega
      · next h2 =>
        rw [if_neg h2]
        simp only at h ⊢
        split at h
        · next h3 =>
          rw [if_pos h3]
          have hk8 : k ≠ 8 := by omega
          obtain ⟨b1, b2, b3, b4⟩ := readNum_bound cs (k + 1) (by omega) h3
          have e : 9 - k = (9 - (k + 1)) + 1 := by omega
          rw [e, Nat.pow_succ]
          refine ⟨?_, by simp, by simp; omega, by simp; omega⟩
          simp only
          have : c.toNat % 128 < 128 := Nat.mod_lt _ (by omega)
          omega
        · next h3 => simp [h3] at h

theorem getNumAt_bound {l : List UInt8} {p : Nat} (h : (getNumAt l p).2.2 = 0) : (getNumAt l p).1 < 9223372036854775808 ∧ p < (getNumAt l p).2.1 ∧ (getNumAt l p).2.1 ≤ l.length ∧ (getNumAt l p).2.1 ≤ p + 9 := by
  unfold getNumAt at h ⊢
  simp only at h ⊢
  split at h
  · next e =>
    rw [if_pos e]
    obtain ⟨b1, b2, b3, b4⟩ := readNum_bound (l.drop p) 0 (by omega) e
    simp only [List.length_drop] at b3
    refine ⟨by simpa using b1, by simp only; omega, by simp only; omega, by simp only; omega⟩
  · next e => simp [e] at h

theorem getNum_bound {l : List UInt8} {p : Int} (h : (getNum l p).2.2 = 0) : 0 ≤ p ∧ (getNum l p).1 < 9223372036854775808 ∧ p < (getNum l p).2.1 ∧ (getNum l p).2.1 ≤ l.length := by
  unfold getNum at h ⊢
  split at h
  · next e =>
    rw [if_pos e]
    have := getNumAt_bound h
    omega
  · simp at h

theorem getNum_err {l : List UInt8} {p : Int} (h : (getNum l p).2.2 ≠ 0) : getNum l p = (0, 0, (getNum l p).2.2) := by
  unfold getNum getNumAt at *
  simp only at *
  split
  · next e =>
    rw [if_pos e] at h
    split at h
    · simp at h
    · next e2 => rw [if_neg e2]
  · rfl

theorem getNum_e_lt (l : List UInt8) (p : Int) : (getNum l p).2.2 ≤ 3 := by
  have aux : ∀ (l : List UInt8) (k : Nat), (readNum k l).2.2 ≤ 3 := by
    intro l
    induction l with
    | nil => intro k; simp [readNum]
    | cons c cs ih =>
      intro k
      unfold readNum
      split
      · simp
      · split
        · simp
        · simp only
          split
          · simp
          · exact ih _
  unfold getNum getNumAt
  simp only
  split
  · split
    · simp
    · exact aux _ _
  · simp

end Go.Proofs.Ytdfhnjocpfjagaa

namespace Go.Proofs.Ytdfhnjocpfjagaa
open Go.RowKit
open Go.Lib (strCells)

theorem top_bit : ∀ c : Fin 256, bits .and .u8 ((c.val : Nat) : Int) 128 = if 128 ≤ c.val then 128 else 0 := by decide +kernel
theorem low_bits : ∀ c : Fin 256, bits .and .u8 ((c.val : Nat) : Int) 127 = ((c.val % 128 : Nat) : Int) := by decide +kernel
theorem top_on (c : UInt8) (h : 128 ≤ c.toNat) : bits .and .u8 (c.toNat : Int) 128 = 128 := by
  have := top_bit ⟨c.toNat, c.toNat_lt⟩
  simpa [h] using this
theorem top_off (c : UInt8) (h : c.toNat < 128) : bits .and .u8 (c.toNat : Int) 128 = 0 := by
  have := top_bit ⟨c.toNat, c.toNat_lt⟩
  simpa [show ¬ 128 ≤ c.toNat from by omega] using this
theorem low_of (c : UInt8) : bits .and .u8 (c.toNat : Int) 127 = ((c.toNat % 128 : Nat) : Int) := low_bits ⟨c.toNat, c.toNat_lt⟩

theorem or_small (a b : Nat) (ha : a < 9223372036854775808) (hb : b < 9223372036854775808) : bits .or .i64 (a : Int) (b : Int) = ((a ||| b : Nat) : Int) := by
  have h63 : (9223372036854775808 : Nat) = 2 ^ 63 := by decide
  have hab : a ||| b < 2 ^ 63 := Nat.or_lt_two_pow (by omega) (by omega)
  have e1 : (BitVec.ofInt 64 (a : Int)).toNat = a := by
    rw [BitVec.ofInt_natCast, BitVec.toNat_ofNat]
    exact Nat.mod_eq_of_lt (by omega)
  have e2 : (BitVec.ofInt 64 (b : Int)).toNat = b := by
    rw [BitVec.ofInt_natCast, BitVec.toNat_ofNat]
    exact Nat.mod_eq_of_lt (by omega)
  have e3 : bits .or .i64 (a : Int) (b : Int) = IntKind.i64.wrap (((BitVec.ofInt 64 (a : Int) ||| BitVec.ofInt 64 (b : Int)).toNat : Nat) : Int) := rfl
  rw [e3, BitVec.toNat_or, e1, e2, IntKind.wrap_i64]
  omega
theorem pow_seven (k : Nat) : (2 : Nat) ^ (7 * k) = 128 ^ k := by rw [Nat.pow_mul]
theorem pow_seven_le {k : Nat} (h : k ≤ 8) : (128 : Nat) ^ k ≤ 72057594037927936 := by
  have : (128 : Nat) ^ k ≤ 128 ^ 8 := Nat.pow_le_pow_right (by omega) h
  omega
/-- n |= int(c) << (7*k), where n is below 128^k -/
theorem or_shift {X c k : Nat} (hX : X < 128 ^ k) (hk : k ≤ 8) (hc : c < 128) : bits .or .i64 (X : Int) (wrap64 ((c : Int) * 2 ^ (7 * k))) = ((X + 128 ^ k * c : Nat) : Int) := by
  have hp := pow_seven_le hk
  have hcp : c * 128 ^ k ≤ 127 * 72057594037927936 := Nat.mul_le_mul (by omega) hp
  have e : ((c : Int) * 2 ^ (7 * k)) = ((c * 128 ^ k : Nat) : Int) := by
    rw [Int.natCast_mul, ← pow_seven, Int.natCast_pow]
    rfl
  rw [e, IntWalk.wrap64_in _ (by constructor <;> omega), or_small _ _ (by omega) (by omega)]
  congr 1
  have := Nat.two_pow_add_eq_or_of_lt (i := 7 * k) (b := X) (by rw [pow_seven]; exact hX) c
  rw [pow_seven] at this
  rw [Nat.mul_comm c, Nat.or_comm, ← this, Nat.add_comm]
theorem pow_step {X c k : Nat} (hX : X < 128 ^ k) (hc : c < 128) : X + 128 ^ k * c < 128 ^ (k + 1) := by
  rw [Nat.pow_succ]
  have : 128 ^ k * c + 128 ^ k ≤ 128 ^ k * 128 := by
    rw [← Nat.mul_succ]
    exact Nat.mul_le_mul_left _ (by omega)
  omega
theorem getNumAt_ok {l b : List UInt8} {p k X x u : Nat} {c : List UInt8} (hb : l.drop p = b) (hj : joinNum 0 0 (readNum 0 b) = joinNum k X (readNum k c)) (hr : joinNum k X (readNum k c) = (x, u, 0)) : getNumAt l p = (x, p + u, 0) := by
  rw [← readNum_start, hr, ← hb] at hj
  simpa using getNumAt_of hj
theorem getNumAt_err {l b : List UInt8} {p k X e : Nat} {c : List UInt8} (hb : l.drop p = b) (hj : joinNum 0 0 (readNum 0 b) = joinNum k X (readNum k c)) (hr : joinNum k X (readNum k c) = (0, 0, e)) (he : e ≠ 0) : getNumAt l p = (0, 0, e) := by
  rw [← readNum_start, hr, ← hb] at hj
  simpa [he] using getNumAt_of hj
theorem ret3_of {a b c a' b' c' : Int} (h1 : a = a') (h2 : b = b') (h3 : c = c') : Ending.returned (.tuple #[.int .i64 a, .int .i64 b, .int .i64 c]) = .returned (.tuple #[.int .i64 a', .int .i64 b', .int .i64 c']) := by rw [h1, h2, h3]

set_option maxHeartbeats 400000 in
theorem getNum_in (A : Option Addr) (n c p B : Nat) (l : List UInt8) (w : World) (h : HasBytes w B A n l) (hp : p ≤ n) (hn : n ≤ maxLen) (hnc : n ≤ c) :
    Calls Try.prog 16 #[.slice A n c, .int .i64 (p : Int)] w fun e w' =>
      e = .returned (.tuple #[.int .i64 ((getNumAt l p).1 : Int), .int .i64 ((getNumAt l p).2.1 : Int), .int .i64 ((getNumAt l p).2.2 : Int)]) ∧ w = w' := by
  unfold maxLen at hn
  have hcut : HasBytes w B (if c = p then A else A.map (·.add p)) (n - p) (l.drop p) := h.part hp hnc
  obtain ⟨A', hA⟩ : ∃ A', (if c = p then A else A.map (·.add p)) = A' := ⟨_, rfl⟩
  rw [hA] at hcut
  clear h
  obtain ⟨b, hb⟩ : ∃ b, l.drop p = b := ⟨_, rfl⟩
  rw [hb] at hcut
  have Hb := Lib.hid hb
  have Hbl := Lib.hid hcut.len
  clear hb
  have hfst : ¬ (p : Int) < 0 := by omega
  go_enter Try.func16, Try.ntmps16
  go_wp2
  go_loop [4, 7, 8, 9, 22] (fun x _ _ _ i => ∃ (k X : Nat), k ≤ n - p ∧ k ≤ 8 ∧ X < 128 ^ k ∧ i = .int .i64 k ∧ x = .int .i64 X ∧ joinNum 0 0 (readNum 0 b) = joinNum k X (readNum k (b.drop k))) (fun _ _ _ _ i => (n - p) - (intOf i).toNat)
  case atStart => exact ⟨0, 0, by omega, by omega, by omega, rfl, rfl, rfl⟩
  case round =>
    obtain ⟨k, X, hk, hk8, hX, rfl, rfl, hj⟩ := hrel
    have Hj := Lib.hid hj
    clear hj
    by_cases hlt : k < n - p
    · obtain ⟨a, rfl, _, hc⟩ := hcut.byte hlt
      have Hd : Hid (b.drop k = b[k]?.getD 0 :: b.drop (k + 1)) := Lib.hid (drop_at (by have := Hbl.out; omega))
      have hlow := low_of (b[k]?.getD 0)
      have hlt256 := (b[k]?.getD 0).toNat_lt
      by_cases hc128 : 128 ≤ (b[k]?.getD 0).toNat
      · have htop := top_on _ hc128
        by_cases hk8' : k = 8
        · have hk8i : ((k : Int) == 8) = true := by simp; omega
          have Hv := Lib.hid (getNumAt_err Hb.out Hj.out (by rw [Hd.out]; exact readNum_form (.inl ⟨hc128, hk8'⟩)) (by decide))
          clear hk8'
          go_wp2
          go_ret3
          rw [Hv.out]
          exact ⟨rfl, rfl⟩
        · have hk8i : ((k : Int) == 8) = false := by simp; omega
          go_wp2
          go_round
          case rel =>
            refine ⟨k + 1, X + 128 ^ k * ((b[k]?.getD 0).toNat % 128), by omega, by omega, pow_step hX (by omega), by go_num, ?_, ?_⟩
            · have := or_shift hX hk8 (c := (b[k]?.getD 0).toNat % 128) (by omega)
              rw [← this]
              rfl
            · rw [Hj.out, Hd.out]
              exact readNum_more hk8' hc128
          case measure => simp [intOf]; omega
      · have htop := top_off _ (by omega : (b[k]?.getD 0).toNat < 128)
        by_cases hz : (b[k]?.getD 0).toNat = 0 ∧ 0 < k
        · have hzi : (((b[k]?.getD 0).toNat : Int) == 0) = true := by simp; omega
          have hk0 : 0 < k := hz.2
          have Hv := Lib.hid (getNumAt_err Hb.out Hj.out (by rw [Hd.out]; exact readNum_form (.inr hz)) (by decide))
          clear hz
          go_wp2
          go_ret3
          rw [Hv.out]
          exact ⟨rfl, rfl⟩
        · have Hv := Lib.hid (getNumAt_ok Hb.out Hj.out (by rw [Hd.out]; exact readNum_last hz (by omega)))
          have Ho : Hid (bits .or .i64 (X : Int) (wrap64 (((b[k]?.getD 0).toNat : Int) % 128 * 2 ^ (7 * k))) = ((X + 128 ^ k * (b[k]?.getD 0).toNat : Nat) : Int)) := by
            have := or_shift hX hk8 (c := (b[k]?.getD 0).toNat % 128) (by omega)
            rw [show (b[k]?.getD 0).toNat % 128 = (b[k]?.getD 0).toNat from by omega] at this
            rw [show ((b[k]?.getD 0).toNat : Int) % 128 = ((b[k]?.getD 0).toNat : Int) from by omega]
            exact this
          have hzk : ¬ (0 < k) ∨ ¬ (b[k]?.getD 0).toNat = 0 := by omega
          clear hz
          rcases hzk with hzk | hzk
          · go_wp2
            go_ret3
            rw [Hv.out]
            exact ⟨ret3_of Ho.out (by simp; omega) rfl, rfl⟩
          · have hzi : (((b[k]?.getD 0).toNat : Int) == 0) = false := by simp; omega
            by_cases hk0 : 0 < k
            · go_wp2
              go_ret3
              rw [Hv.out]
              exact ⟨ret3_of Ho.out (by simp; omega) rfl, rfl⟩
            · go_wp2
              go_ret3
              rw [Hv.out]
              exact ⟨ret3_of Ho.out (by simp; omega) rfl, rfl⟩
    · have Hv := Lib.hid (getNumAt_err Hb.out Hj.out (by rw [List.drop_eq_nil_of_le (by have := Hbl.out; omega)]; exact readNum_nil k X) (by decide))
      go_wp2
      go_ret3
      rw [Hv.out]
      exact ⟨rfl, rfl⟩

end Go.Proofs.Ytdfhnjocpfjagaa

namespace Go.Proofs.Ytdfhnjocpfjagaa
open Go.RowKit
open Go.Lib (strCells)

theorem getNum_out (A : Option Addr) (n c : Nat) (p : Int) (w : World) (hp : p < 0 ∨ (n : Int) < p) :
    Calls Try.prog 16 #[.slice A n c, .int .i64 p] w fun e w' =>
      e = .returned (.tuple #[.int .i64 0, .int .i64 0, .int .i64 1]) ∧ w = w' := by
  by_cases h : p < 0
  · go_enter Try.func16, Try.ntmps16
    go_wp2
    go_ret3
    exact ⟨rfl, rfl⟩
  · have hg : (n : Int) < p := by omega
    go_enter Try.func16, Try.ntmps16
    go_wp2
    go_ret3
    exact ⟨rfl, rfl⟩

theorem getNum_any (A : Option Addr) (n c B : Nat) (p : Int) (l : List UInt8) (w : World) (h : HasBytes w B A n l) (hn : n ≤ maxLen) (hnc : n ≤ c) :
    Calls Try.prog 16 #[.slice A n c, .int .i64 p] w fun e w' =>
      e = .returned (.tuple #[.int .i64 ((getNum l p).1 : Int), .int .i64 ((getNum l p).2.1 : Int), .int .i64 ((getNum l p).2.2 : Int)]) ∧ w = w' := by
  have hl := h.len
  by_cases hp : 0 ≤ p ∧ p ≤ n
  · obtain ⟨q, rfl⟩ : ∃ q : Nat, p = q := ⟨p.toNat, by omega⟩
    have e : getNum l q = getNumAt l q := by simp [getNum]; omega
    rw [e]
    exact getNum_in A n c q B l w h (by omega) hn hnc
  · have e : getNum l p = (0, 0, 1) := by unfold getNum; rw [if_neg (by omega)]
    rw [e]
    exact getNum_out A n c p w (by omega)

theorem ref_sum {X c k : Nat} (hX : X < 128 ^ k) (hk : k ≤ 8) (hc : c < 128) : wrap64 ((X : Int) + wrap64 ((c : Int) * 128 ^ k)) = ((X + 128 ^ k * c : Nat) : Int) := by
  have hp := pow_seven_le hk
  have hcp : c * 128 ^ k ≤ 127 * 72057594037927936 := Nat.mul_le_mul (by omega) hp
  have e : ((c : Int) * 128 ^ k) = ((c * 128 ^ k : Nat) : Int) := by
    rw [Int.natCast_mul, Int.natCast_pow]
    rfl
  have h1 := IntWalk.wrap64_in ((c * 128 ^ k : Nat) : Int) (by constructor <;> omega)
  rw [e, h1, IntWalk.wrap64_in _ (by constructor <;> omega), Nat.mul_comm c]
  omega
theorem ref_unit {k : Nat} (hk : k < 8) : wrap64 ((128 : Int) ^ k * 128) = ((128 ^ (k + 1) : Nat) : Int) := by
  have hp := pow_seven_le (k := k + 1) hk
  have e : ((128 : Int) ^ k * 128) = ((128 ^ (k + 1) : Nat) : Int) := by
    rw [← Int.pow_succ, Int.natCast_pow]
    rfl
  rw [e]
  generalize 128 ^ (k + 1) = U at hp ⊢
  exact IntWalk.wrap64_in _ (by constructor <;> omega)

/-- the document's answer for layer 1, as a value: (number, text, list, place, error) -/
def got (x : Nat) (s : List UInt8) (lv : Value) (u e : Nat) : Value := .agg #[.int .i64 x, .string ⟨s.toArray⟩, lv, .int .i64 u, .int .i64 e]

set_option maxRecDepth 100000 in
set_option maxHeartbeats 400000 in
theorem refNum_in (A : Option Addr) (n c p B : Nat) (l : List UInt8) (w : World) (h : HasBytes w B A n l) (hB : B ≤ w.heap.size) (hp : p ≤ n) (hn2 : n + 9 < 9223372036854775808) :
    Calls Try.prog 17 #[.slice A n c, .int .i64 (p : Int)] w fun e w' =>
      e = .returned (got (getNumAt l p).1 [] (.slice none 0 0) (getNumAt l p).2.1 (getNumAt l p).2.2) ∧ Below w.heap.size w w' := by
  have Hbl := Lib.hid h.len
  obtain ⟨b, hb⟩ : ∃ b, l.drop p = b := ⟨_, rfl⟩
  have Hb := Lib.hid hb
  clear hb
  have hfst : ¬ (p : Int) < 0 := by omega
  go_enter Try.func17, Try.ntmps17
  go_wp2
  go_loop [1, 5, 6, 7, 8] (fun at_ x u i _ => ∃ (k X : Nat), p + k ≤ n ∧ k ≤ 8 ∧ X < 128 ^ k ∧ at_ = .int .i64 ((p + k : Nat) : Int) ∧ x = .int .i64 X ∧ u = .int .i64 ((128 ^ k : Nat) : Int) ∧ i = .int .i64 k ∧ joinNum 0 0 (readNum 0 b) = joinNum k X (readNum k (l.drop (p + k)))) (fun _ _ _ i _ => 9 - (intOf i).toNat)
  case atStart => exact ⟨0, 0, by omega, by omega, by omega, rfl, rfl, rfl, rfl, by rw [← Hb.out]; rfl⟩
  case round =>
    obtain ⟨k, X, hk, hk8, hX, rfl, rfl, rfl, rfl, hj⟩ := hrel
    have Hj := Lib.hid hj
    clear hj
    have hpk := pow_seven_le hk8
    by_cases hlt : p + k < n
    · obtain ⟨a, rfl, hab, hc0⟩ := h.byte hlt
      have hc : ∀ o, (w.alloc o).cell? (a.add (p + k)) = some (.int .u8 ((l[p + k]?.getD 0).toNat : Int)) := fun o => by
        rw [World.cell?_alloc_lt w o _ (by rw [addr_block]; omega), hc0]
        simp
      clear hc0
      have Hd : Hid (l.drop (p + k) = l[p + k]?.getD 0 :: l.drop (p + k + 1)) := Lib.hid (drop_at (by have := Hbl.out; omega))
      have hlt256 := (l[p + k]?.getD 0).toNat_lt
      by_cases hc128 : 128 ≤ (l[p + k]?.getD 0).toNat
      · by_cases hk8' : k = 8
        · have hk8i : ((k : Int) == 8) = true := by simp; omega
          have Hv := Lib.hid (getNumAt_err Hb.out Hj.out (by rw [Hd.out]; exact readNum_form (.inl ⟨hc128, hk8'⟩)) (by decide))
          clear hk8'
          go_wp2
          refine bodyPost_ret (v := got 0 [] (.slice none 0 0) 0 3) ?_ rfl ?_
          · simp [results, Try.results17, go_sem, got]
          · rw [Hv.out]
            exact ⟨rfl, (Below.refl _ _).alloc (Nat.le_refl _) _⟩
        · have hk8i : ((k : Int) == 8) = false := by simp; omega
          go_wp2
          go_round
          case rel =>
            refine ⟨k + 1, X + 128 ^ k * ((l[p + k]?.getD 0).toNat % 128), by omega, by omega, pow_step hX (by omega), by go_num, ?_, ?_, by go_num, ?_⟩
            · have := ref_sum hX hk8 (c := (l[p + k]?.getD 0).toNat % 128) (by omega)
              rw [← this]
              rfl
            · rw [ref_unit (by omega)]
            · rw [Hj.out, Hd.out]
              exact readNum_more hk8' hc128
          case measure => simp [intOf]; omega
      · by_cases hz : (l[p + k]?.getD 0).toNat = 0 ∧ 0 < k
        · have hzi : (((l[p + k]?.getD 0).toNat : Int) == 0) = true := by simp; omega
          have hk0 : 0 < k := hz.2
          have Hv := Lib.hid (getNumAt_err Hb.out Hj.out (by rw [Hd.out]; exact readNum_form (.inr hz)) (by decide))
          clear hz
          go_wp2
          refine bodyPost_ret (v := got 0 [] (.slice none 0 0) 0 3) ?_ rfl ?_
          · simp [results, Try.results17, go_sem, got]
          · rw [Hv.out]
            exact ⟨rfl, (Below.refl _ _).alloc (Nat.le_refl _) _⟩
        · have Hv := Lib.hid (getNumAt_ok Hb.out Hj.out (by rw [Hd.out]; exact readNum_last hz (by omega)))
          have Ho : Hid (wrap64 ((X : Int) + wrap64 (((l[p + k]?.getD 0).toNat : Int) % 128 * 128 ^ k)) = ((X + 128 ^ k * (l[p + k]?.getD 0).toNat : Nat) : Int)) := by
            have := ref_sum hX hk8 (c := (l[p + k]?.getD 0).toNat % 128) (by omega)
            rw [show (l[p + k]?.getD 0).toNat % 128 = (l[p + k]?.getD 0).toNat from by omega] at this
            rw [show ((l[p + k]?.getD 0).toNat : Int) % 128 = ((l[p + k]?.getD 0).toNat : Int) from by omega]
            exact this
          have hzk : ¬ (0 < k) ∨ ¬ (l[p + k]?.getD 0).toNat = 0 := by omega
          clear hz
          by_cases hz0 : (l[p + k]?.getD 0).toNat = 0
          · have hzi : (((l[p + k]?.getD 0).toNat : Int) == 0) = true := by simp; omega
            have hk0 : ¬ 0 < k := by omega
            clear hz0 hzk
            go_wp2
            refine bodyPost_ret (v := got (X + 128 ^ k * (l[p + k]?.getD 0).toNat) [] (.slice none 0 0) (p + (k + 1)) 0) ?_ rfl ?_
            · simp [results, Try.results17, go_sem, got]
              rw [Ho.out]
              simp
              omega
            · rw [Hv.out]
              exact ⟨rfl, (Below.refl _ _).alloc (Nat.le_refl _) _⟩
          · have hzi : (((l[p + k]?.getD 0).toNat : Int) == 0) = false := by simp; omega
            clear hz0 hzk
            go_wp2
            refine bodyPost_ret (v := got (X + 128 ^ k * (l[p + k]?.getD 0).toNat) [] (.slice none 0 0) (p + (k + 1)) 0) ?_ rfl ?_
            · simp [results, Try.results17, go_sem, got]
              rw [Ho.out]
              simp
              omega
            · rw [Hv.out]
              exact ⟨rfl, (Below.refl _ _).alloc (Nat.le_refl _) _⟩
    · have Hv := Lib.hid (getNumAt_err Hb.out Hj.out (by rw [List.drop_eq_nil_of_le (by have := Hbl.out; omega)]; exact readNum_nil k X) (by decide))
      go_wp2
      refine bodyPost_ret (v := got 0 [] (.slice none 0 0) 0 2) ?_ rfl ?_
      · simp [results, Try.results17, go_sem, got]
      · rw [Hv.out]
        exact ⟨rfl, (Below.refl _ _).alloc (Nat.le_refl _) _⟩

theorem refNum_any (A : Option Addr) (n c B : Nat) (p : Int) (l : List UInt8) (w : World) (h : HasBytes w B A n l) (hB : B ≤ w.heap.size) (hn2 : n + 9 < 9223372036854775808) :
    Calls Try.prog 17 #[.slice A n c, .int .i64 p] w fun e w' =>
      e = .returned (got (getNum l p).1 [] (.slice none 0 0) (getNum l p).2.1 (getNum l p).2.2) ∧ Below w.heap.size w w' := by
  have hl := h.len
  by_cases hp : 0 ≤ p ∧ p ≤ n
  · obtain ⟨q, rfl⟩ : ∃ q : Nat, p = q := ⟨p.toNat, by omega⟩
    have e : getNum l q = getNumAt l q := by simp [getNum]; omega
    rw [e]
    exact refNum_in A n c q B l w h hB (by omega) hn2
  · have e : getNum l p = (0, 0, 1) := by unfold getNum; rw [if_neg (by omega)]
    have He := Lib.hid e
    clear e hl h
    by_cases hlo : p < 0
    · go_enter Try.func17, Try.ntmps17
      go_wp2
      refine bodyPost_ret (v := got 0 [] (.slice none 0 0) 0 1) ?_ rfl ?_
      · simp [results, Try.results17, go_sem, got]
      · rw [He.out]
        exact ⟨rfl, (Below.refl _ _).alloc (Nat.le_refl _) _⟩
    · have hgt : (n : Int) < p := by omega
      go_enter Try.func17, Try.ntmps17
      go_wp2
      refine bodyPost_ret (v := got 0 [] (.slice none 0 0) 0 1) ?_ rfl ?_
      · simp [results, Try.results17, go_sem, got]
      · rw [He.out]
        exact ⟨rfl, (Below.refl _ _).alloc (Nat.le_refl _) _⟩

end Go.Proofs.Ytdfhnjocpfjagaa

namespace Go.Proofs.Ytdfhnjocpfjagaa
open Go.RowKit
open Go.Lib (strCells)

theorem numForm_small {k : Nat} (h : k < 128) : numForm k = [UInt8.ofNat k] := by rw [numForm, if_pos h]
theorem numForm_big {k : Nat} (h : 128 ≤ k) : numForm k = UInt8.ofNat (k % 128 + 128) :: numForm (k / 128) := by rw [numForm, if_neg (by omega)]
theorem numForm_len : ∀ (j k : Nat), k < 128 ^ (j + 1) → (numForm k).length ≤ j + 1
  | 0, k, h => by rw [numForm_small (by simpa using h)]; simp
  | j + 1, k, h => by
    by_cases hk : k < 128
    · rw [numForm_small hk]; simp
    · rw [numForm_big (by omega)]
      have := numForm_len j (k / 128) (by rw [Nat.pow_succ] at h; omega)
      simp only [List.length_cons]
      omega
theorem numForm_len9 {k : Nat} (h : k < 9223372036854775808) : (numForm k).length ≤ 9 := numForm_len 8 k (by omega)

theorem and_127 (k : Nat) (h : k < 9223372036854775808) : bits .and .i64 (k : Int) 127 = ((k % 128 : Nat) : Int) := by
  have h1 : bits .and .i64 (k : Int) 127 = (k : Int) % 128 := bits_mask .i64 63 (by decide) (fun n h0 h1 => IntWalk.i64_in n ⟨by omega, by omega⟩) 7 (by decide) k (by omega) (by omega)
  rw [h1]
  omega
theorem or_128 (k : Nat) : bits .or .i64 ((k % 128 : Nat) : Int) 128 = ((k % 128 + 128 : Nat) : Int) := by
  have h := or_small (k % 128) 128 (by omega) (by omega)
  have e := Nat.two_pow_add_eq_or_of_lt (i := 7) (b := k % 128) (by omega) 1
  rw [show (2 : Nat) ^ 7 * 1 = 128 from by decide] at e
  rw [Nat.or_comm, ← e, Nat.add_comm] at h
  exact h

set_option maxHeartbeats 400000 in
theorem addNum_any (B m k : Nat) (v : Value) (xs : List Value) (w : World) (hown : w.ownsRow B 5 1 v m xs) (hB : B ≤ w.heap.size) (hk : k < 9223372036854775808) (hm : m ≤ 70368744177664) :
    Calls Try.prog 65 #[v, .int .i64 (k : Int)] w (Gives B (m + (numForm k).length) (xs ++ byteCells (numForm k)) w) := by
  have hlen := numForm_len9 hk
  go_enter Try.func65, Try.ntmps65
  go_wp2
  go_loopw [0, 1] (fun v i wr => ∃ (k' : Nat) (pre : List UInt8), k' ≤ k ∧ i = .int .i64 (k' : Int) ∧ numForm k = pre ++ numForm k' ∧ wr.ownsRow B 5 1 v (m + pre.length) (xs ++ byteCells pre) ∧ Below B w wr) (fun _ i _ => (intOf i).toNat)
  case atStart => exact ⟨k, [], Nat.le_refl _, rfl, rfl, by simpa [byteCells] using hown, Below.refl _ _⟩
  case round =>
    obtain ⟨k', pre, hk', rfl, hf, hown', hb⟩ := hrel
    have Hf := Lib.hid hf
    have hpl : pre.length ≤ 9 := by have := congrArg List.length hf; simp only [List.length_append] at this; omega
    have hBr : B ≤ wr.heap.size := Nat.le_trans hB hb.size
    clear hf
    have hand := and_127 k' (by omega)
    have hor : bits .or .i64 ((k' : Int) % 128) 128 = (k' : Int) % 128 + 128 := or_128 k'
    by_cases hlt : 128 ≤ k'
    · go_wp2_with (at_builtin; refine wpList_append_has rfl (.tmp 7) (.tmp 12) _ rfl 5 u8_elem Try.underlying22 rfl (hown'.alloc _) rfl (Has.one wr _ _ _ rfl) (one_int _ _) (by simp only [maxLen]; omega) (by omega) (le_alloc hBr _) ?_; intro v' w1 hown1 hg1 _)
      have hb1 : Below B w w1 := below_own (hb.alloc hBr _) (hown'.alloc _) hg1 (le_alloc hBr _)
      go_roundw
      case rel =>
        refine ⟨k' / 128, pre ++ [UInt8.ofNat (k' % 128 + 128)], by omega, by go_num, ?_, ?_, hb1⟩
        · rw [Hf.out, numForm_big hlt, List.append_assoc]
          rfl
        · rw [byteCells_app, byte_cell _ (by omega), ← List.append_assoc, List.length_append]
          exact hown1
      case measure => simp [intOf]; omega
    · go_wp2_with (at_builtin; refine wpList_append_has rfl (.tmp 16) (.tmp 19) _ rfl 5 u8_elem Try.underlying22 rfl (hown'.alloc _) rfl (Has.one wr _ _ _ rfl) (one_int _ _) (by simp only [maxLen]; omega) (by omega) (le_alloc hBr _) ?_; intro v' w1 hown1 hg1 _)
      have hb1 : Below B w w1 := below_own (hb.alloc hBr _) (hown'.alloc _) hg1 (le_alloc hBr _)
      go_ret
      have hn : numForm k' = [UInt8.ofNat k'] := numForm_small (by omega)
      refine ret_own rfl hown1 ?_ ?_ hb1
      · rw [Hf.out, hn, List.length_append]; rfl
      · rw [Hf.out, hn, byteCells_app, byte_cell _ (by omega), List.append_assoc]

theorem gives_mono {B B' m : Nat} {xs : List Value} {w : World} {e : Ending} {w' : World} (h : Gives B m xs w e w') (hB : B' ≤ B) : ∃ v', e = .returned v' ∧ w'.ownsRow B 5 1 v' m xs ∧ Below B' w w' := by
  obtain ⟨v', he, ho, hb⟩ := h
  exact ⟨v', he, ho, hb.mono hB⟩

/-- Num -/
theorem num_any (k : Int) (w : World) (hk : k < 9223372036854775808) :
    Calls Try.prog 19 #[.int .i64 k] w (Gives w.heap.size (if k < 0 then [] else numForm k.toNat).length (byteCells (if k < 0 then [] else numForm k.toNat)) w) := by
  by_cases h : k < 0
  · rw [if_pos h]
    go_enter Try.func19, Try.ntmps19
    go_wp2
    go_ret
    exact ⟨_, rfl, World.ownsRow_nil _ _ _ _, Below.refl _ _⟩
  · rw [if_neg h]
    obtain ⟨q, rfl⟩ : ∃ q : Nat, k = q := ⟨k.toNat, by omega⟩
    rw [Int.toNat_natCast]
    go_enter Try.func19, Try.ntmps19
    go_wp2_with fail
    refine (addNum_any w.heap.size 0 q (.slice none 0 0) [] w (World.ownsRow_nil _ _ _ _) (Nat.le_refl _) (by omega) (by omega)).mono ?_
    rintro e w' ⟨v', rfl, hown, hb⟩
    go_wp2
    go_ret
    exact ret_own rfl hown (by omega) rfl hb

end Go.Proofs.Ytdfhnjocpfjagaa

namespace Go.Proofs.Ytdfhnjocpfjagaa
open Go.RowKit
open Go.Lib (strCells)

theorem size_bytes (s : ByteArray) : s.data.toList.length = s.size := Array.length_toList
theorem textForm_len (s : List UInt8) : (textForm s).length = (numForm s.length).length + s.length := by simp [textForm]

set_option maxHeartbeats 400000 in
theorem addTextP_any (B m : Nat) (v : Value) (xs : List Value) (s : ByteArray) (w : World) (hown : w.ownsRow B 5 1 v m xs) (hB : B ≤ w.heap.size) (hs : s.size ≤ 1000000) (hm : m ≤ 35184372088832) :
    Calls Try.prog 66 #[v, .string s] w (Gives B (m + (textForm s.data.toList).length) (xs ++ byteCells (textForm s.data.toList)) w) := by
  obtain ⟨i0, hi, hz, hs1, hb1⟩ := u8_elem.get
  have hlen := numForm_len9 (k := s.size) (by omega)
  go_enter Try.func66, Try.ntmps66
  go_wp2_with fail
  refine (addNum_any B m s.size v xs w hown hB (by omega) (by omega)).mono ?_
  rintro e w1 ⟨v1, rfl, hown1, hbel1⟩
  have hB1 : B ≤ w1.heap.size := Nat.le_trans hB hbel1.size
  go_wp2_with (at_builtin; refine Lib.wpList_append_own_string w1 rfl (.tmp 8) (.tmp 9) _ _ rfl B 5 i0 Try.underlying22 Try.underlying9 hi hz hs1 hb1 v1 _ _ rfl hown1 s rfl (by simp only [maxLen]; omega) (by omega) hB1 ?_; intro v2 w2 hown2 hg2 _)
  have hb2 : Below B w w2 := below_own hbel1 hown1 hg2 hB1
  go_ret
  refine ret_own rfl hown2 ?_ ?_ hb2
  · rw [textForm_len, size_bytes]; omega
  · rw [textForm, byteCells_app, size_bytes, List.append_assoc]; rfl

/-- Text -/
theorem text_any (s : ByteArray) (w : World) (hs : s.size ≤ 1000000) :
    Calls Try.prog 21 #[.string s] w (Gives w.heap.size (textForm s.data.toList).length (byteCells (textForm s.data.toList)) w) := by
  go_enter Try.func21, Try.ntmps21
  go_wp2_with fail
  refine (addTextP_any w.heap.size 0 (.slice none 0 0) [] s w (World.ownsRow_nil _ _ _ _) (Nat.le_refl _) hs (by omega)).mono ?_
  rintro e w' ⟨v', rfl, hown, hb⟩
  go_wp2
  go_ret
  exact ret_own rfl hown (by omega) rfl hb

end Go.Proofs.Ytdfhnjocpfjagaa

namespace Go.Proofs.Ytdfhnjocpfjagaa
open Go.RowKit
open Go.Lib (strCells)

set_option maxHeartbeats 400000 in
/-- GetText -/
theorem getText_any (A : Option Addr) (n c B : Nat) (p most : Int) (l : List UInt8) (w : World) (h : HasBytes w B A n l) (hn : n ≤ 4611686018427387904) (hnc : n ≤ c) :
    Calls Try.prog 23 #[.slice A n c, .int .i64 p, .int .i64 most] w fun e w' =>
      e = .returned (.tuple #[.string ⟨(getText l p most).1.toArray⟩, .int .i64 ((getText l p most).2.1 : Int), .int .i64 ((getText l p most).2.2 : Int)]) ∧ w = w' := by
  have hl := h.len
  obtain ⟨r, hr⟩ : ∃ r, getNum l p = r := ⟨_, rfl⟩
  obtain ⟨x, u, e⟩ := r
  have hcall := getNum_any A n c B p l w h (by unfold maxLen; omega) hnc
  rw [hr] at hcall
  have hT : getText l p most = if e ≠ 0 then ([], 0, e) else if most < x then ([], 0, 4) else if l.length - u < x then ([], 0, 2) else ((l.drop u).take x, u + x, 0) := by
    simp only [getText, hr]
  rw [hl] at hT
  have hcall2 := Lib.hid hcall
  clear hcall
  by_cases he : e = 0
  · subst he
    have hbd := getNum_bound (l := l) (p := p) (by rw [hr])
    rw [hr] at hbd
    simp only [hl] at hbd
    rw [if_neg (by omega)] at hT
    have Hl := Lib.hid hl
    clear hl hr
    by_cases hm : most < x
    · rw [if_pos hm] at hT
      have HT := Lib.hid hT
      clear hT
      go_enter Try.func23, Try.ntmps23
      go_wp2_with fail
      refine hcall2.out.mono ?_
      rintro e w' ⟨rfl, rfl⟩
      go_wp2
      go_ret3
      rw [HT.out]
      exact ⟨rfl, rfl⟩
    · rw [if_neg hm] at hT
      by_cases hs : n - u < x
      · rw [if_pos hs] at hT
        have HT := Lib.hid hT
        clear hT
        go_enter Try.func23, Try.ntmps23
        go_wp2_with fail
        refine hcall2.out.mono ?_
        rintro e w' ⟨rfl, rfl⟩
        go_wp2
        go_ret3
        rw [HT.out]
        exact ⟨rfl, rfl⟩
      · rw [if_neg hs] at hT
        have HT := Lib.hid hT
        clear hT
        have hux : u + x ≤ n := by omega
        have hcut : HasBytes w B (if c = u then A else A.map (·.add u)) (n - u) (l.drop u) := h.part (by omega) hnc
        obtain ⟨A', hA⟩ : ∃ A', (if c = u then A else A.map (·.add u)) = A' := ⟨_, rfl⟩
        rw [hA] at hcut
        have hcv := fun cap => run_string_of (P := Try.prog) (hcut.head (k := x) (by omega)) cap 22 9 5 Try.underlying22 Try.underlying5 Try.underlying9
        clear hcut
        go_enter Try.func23, Try.ntmps23
        go_wp2_with fail
        refine hcall2.out.mono ?_
        rintro e w' ⟨rfl, rfl⟩
        go_wp2
        go_ret3
        rw [HT.out]
        exact ⟨rfl, rfl⟩
  · rw [if_pos he] at hT
    have hgt : 0 < e := by omega
    have h3 := getNum_e_lt l p
    have h0 := getNum_err (l := l) (p := p) (by rw [hr]; exact he)
    rw [hr] at h3 h0
    simp only [Prod.mk.injEq, and_true] at h3 h0
    obtain ⟨rfl, rfl⟩ := h0
    have hei : ((e : Int) == 0) = false := by simp; omega
    have HT := Lib.hid hT
    clear hT hl hr
    go_enter Try.func23, Try.ntmps23
    go_wp2_with fail
    refine hcall2.out.mono ?_
    rintro e w' ⟨rfl, rfl⟩
    go_wp2
    go_ret3
    rw [HT.out]
    exact ⟨rfl, rfl⟩

end Go.Proofs.Ytdfhnjocpfjagaa

namespace Go.Proofs.Ytdfhnjocpfjagaa
open Go.RowKit
open Go.Lib (strCells)

/-! ### Join -/
def Parts (w : World) (B : Nat) (A : Option Addr) (n : Nat) (vs : List Value) (ps : List (List UInt8)) : Prop :=
  Has w B A n vs ∧ vs.length = ps.length ∧ ∀ k, k < ps.length → ∃ A' n' c', vs[k]? = some (.slice A' n' c') ∧ HasBytes w B A' n' (ps.getD k [])

def flat : List (List UInt8) → List UInt8
  | [] => []
  | p :: r => p ++ flat r
theorem flat_app (a b : List (List UInt8)) : flat (a ++ b) = flat a ++ flat b := by
  induction a with
  | nil => rfl
  | cons x a ih => simp [flat, ih]
theorem flat_succ {ps : List (List UInt8)} {k : Nat} (h : k < ps.length) : flat (ps.take (k + 1)) = flat (ps.take k) ++ ps.getD k [] := by
  rw [List.take_succ_eq_append_getElem h, flat_app]
  simp [flat, h]
theorem flat_le (ps : List (List UInt8)) (k : Nat) : (flat (ps.take k)).length ≤ (flat ps).length := by
  have h := List.take_append_drop k ps
  have : flat ps = flat (ps.take k) ++ flat (ps.drop k) := by rw [← flat_app, h]
  rw [this, List.length_append]
  omega

set_option maxRecDepth 100000 in
set_option maxHeartbeats 800000 in
theorem join_any (A : Option Addr) (n c C : Nat) (vs : List Value) (ps : List (List UInt8)) (w : World) (h : Parts w C A n vs ps) (hC : C ≤ w.heap.size) (hs : (flat ps).length ≤ 100000000) (hn : n ≤ 1000000) :
    Calls Try.prog 20 #[.slice A n c] w (Gives w.heap.size (flat ps).length (byteCells (flat ps)) w) := by
  obtain ⟨hv, hvl, hp⟩ := h
  have Hl : Hid (ps.length = n) := Lib.hid (by rw [← hvl]; exact hv.1)
  have Hp := Lib.hid hp
  clear hvl hp
  go_enter Try.func20, Try.ntmps20
  go_wp2
  go_loopw [3, 5, 8] (fun v _ i wr => ∃ k : Nat, k ≤ n ∧ i = .int .i64 (k : Int) ∧ wr.ownsRow w.heap.size 5 1 v (flat (ps.take k)).length (byteCells (flat (ps.take k))) ∧ Below w.heap.size w wr) (fun _ _ i _ => n - (intOf i).toNat)
  case atStart => exact ⟨0, by omega, rfl, World.ownsRow_nil _ _ _ _, Below.refl _ _⟩
  case round =>
    obtain ⟨k, hk, rfl, hown', hb⟩ := hrel
    have hBr : w.heap.size ≤ wr.heap.size := hb.size
    have hle := flat_le ps k
    by_cases hlt : k < n
    · obtain ⟨a, rfl, hab, hc0⟩ := hv.cell hlt
      obtain ⟨A', n', c', hvk, hpk⟩ := Hp.out k (by have := Hl.out; omega)
      have hc : wr.cell? (a.add k) = some (.slice A' n' c') := by
        rw [hb.cell (by rw [addr_block]; omega), hc0]
        simp [hvk]
      have hle2 := flat_le ps (k + 1)
      have hs0 := flat_succ (ps := ps) (k := k) (by have := Hl.out; omega)
      have hle3 : (flat (ps.take k)).length + n' ≤ 100000000 := by
        rw [hs0, List.length_append, hpk.len] at hle2
        omega
      have Hpk := Lib.hid (hpk.belowOf hb hC)
      have Hlen := Lib.hid hpk.len
      have Hs := Lib.hid hs0
      have Hown' := Lib.hid hown'
      have Hb := Lib.hid hb
      clear hc0 hvk hpk hs0 hle2 hown' hb
      go_wp2_with (at_builtin; refine wpList_append_has rfl (.tmp 12) (.tmp 13) _ rfl 5 u8_elem Try.underlying22 rfl Hown'.out rfl Hpk.out (byteCells_one _) (by simp only [maxLen]; omega) (by omega) hBr ?_; intro v3 w3 hown3 hg3 _)
      have Hb3 := Lib.hid (below_own Hb.out Hown'.out hg3 hBr)
      go_roundw
      case rel =>
        refine ⟨k + 1, by omega, by go_num, ?_, Hb3.out⟩
        rw [Hs.out, byteCells_app, List.length_append, Hlen.out]
        exact hown3
      case measure => simp [intOf]; omega
    · go_wp2
      go_ret
      have e1 : ps.take k = ps := List.take_of_length_le (by have := Hl.out; omega)
      rw [e1] at hown'
      exact ret_own rfl hown' rfl rfl hb

end Go.Proofs.Ytdfhnjocpfjagaa

namespace Go.Proofs.Ytdfhnjocpfjagaa
open Go.RowKit
open Go.Lib (strCells)

/-- slice values, each with the bytes that it has -/
abbrev Pvs := List (Value × List UInt8)
def pvCells (rs : Pvs) : List Value := rs.map (·.1)
/-- a row of rows of bytes that the call owns, from block B on: the rows too -/
structure OwnPv (w : World) (B : Nat) (v : Value) (rs : Pvs) : Prop where
  own : w.ownsRow B 22 1 v rs.length (pvCells rs)
  rows : ∀ r ∈ rs, w.ownsRow B 5 1 r.1 r.2.length (byteCells r.2)
theorem pv_elem : ElemN Try.prog 22 1 24 (.slice none 0 0) := ⟨by kernel_rfl, rfl⟩
theorem own_typeP {w : World} {B m size : Nat} {e : TypeId} {v : Value} {xs : List Value} (h : w.ownsRow B e size v m xs) {g : Nat} (hg : v.ownBlock = some g) : ∃ cur : Array Value, w.heap[g]? = some (Obj.cells cur e (0, 0)) := by
  rcases h.2 with ⟨rfl, _⟩ | ⟨g', cap, cur, rfl, hB, hh, rest⟩
  · cases hg
  · cases hg; exact ⟨cur, hh⟩
theorem own_keepP {w w' : World} {B m size : Nat} {e : TypeId} {v : Value} {xs : List Value} (h : w.ownsRow B e size v m xs) (hk : ∀ g, v.ownBlock = some g → w'.heap[g]? = w.heap[g]?) : w'.ownsRow B e size v m xs := by
  refine ⟨h.1, ?_⟩
  rcases h.2 with hn | ⟨g, cap, cur, rfl, hB, hg, rest⟩
  · exact .inl hn
  · exact .inr ⟨g, cap, cur, rfl, hB, (hk g rfl).trans hg, rest⟩
/-- a row stays where a row of another element type has grown -/
theorem own_otherP {w w' : World} {B B' m m' size size' : Nat} {e e' : TypeId} {v v' : Value} {xs xs' : List Value} (hg : w.grownBy w' v.ownBlock) (h : w.ownsRow B e size v m xs) (h' : w.ownsRow B' e' size' v' m' xs') (hne : e ≠ e') : w'.ownsRow B' e' size' v' m' xs' :=
  own_keepP h' fun g hgx => by
    obtain ⟨cur, hc⟩ := own_typeP h' hgx
    refine hg.block g (Array.getElem?_eq_some_iff.1 hc).1 fun e0 => ?_
    obtain ⟨cur', hc'⟩ := own_typeP h e0.symm
    rw [hc] at hc'
    injection hc' with hc'
    injection hc' with _ ht _
    exact hne ht.symm
theorem OwnPv.below {w w' : World} {B : Nat} {v : Value} {rs : Pvs} (h : OwnPv w B v rs) (hb : Below w.heap.size w w') : OwnPv w' B v rs :=
  ⟨own_belowN h.own hb, fun r hr => own_belowN (h.rows r hr) hb⟩
theorem grown_bel {w w' : World} (h : Below w.heap.size w w') (r : Option Nat) : w.grownBy w' r := ⟨h.os, h.tape, h.output, h.size, fun k hk _ => h.block k hk⟩
theorem below_thn {B : Nat} {w w1 w2 : World} (h : Below B w w1) (k : Below w1.heap.size w1 w2) (hB : B ≤ w1.heap.size) : Below B w w2 := h.trans (k.mono hB)
theorem OwnPv.snoc {w w' : World} {B : Nat} {v v' : Value} {rs qs : Pvs} (h : OwnPv w B v rs) (hq : ∀ q ∈ qs, w.ownsRow B 5 1 q.1 q.2.length (byteCells q.2)) (h' : w'.ownsRow B 22 1 v' (rs.length + qs.length) (pvCells rs ++ pvCells qs)) (hg : w.grownBy w' v.ownBlock) : OwnPv w' B v' (rs ++ qs) := by
  refine ⟨by rw [List.length_append]; unfold pvCells at h' ⊢; rw [List.map_append]; exact h', fun r hr => ?_⟩
  rcases List.mem_append.1 hr with hr | hr
  · exact own_otherP hg h.own (h.rows r hr) (by decide)
  · exact own_otherP hg h.own (hq r hr) (by decide)
end Go.Proofs.Ytdfhnjocpfjagaa

namespace Go.Proofs.Ytdfhnjocpfjagaa

theorem numForm_lo {k : Nat} (h : k < 128) : numForm k = [UInt8.ofNat k] := by rw [numForm, if_pos h]
theorem numForm_hi {k : Nat} (h : 128 ≤ k) : numForm k = UInt8.ofNat (k % 128 + 128) :: numForm (k / 128) := by rw [numForm, if_neg (by omega)]
theorem ofNat_small {k : Nat} (h : k < 256) : (UInt8.ofNat k).toNat = k := by simp; omega
theorem numForm_pos (k : Nat) : 0 < (numForm k).length := by
  by_cases h : k < 128
  · rw [numForm_lo h]; simp
  · rw [numForm_hi (by omega)]; simp

/-! ### what is read is the one form -/
theorem readNum_pos : ∀ (l : List UInt8) (k : Nat), 0 < k → (readNum k l).2.2 = 0 → 0 < (readNum k l).1
  | [], k, _, h => by simp [readNum] at h
  | c :: cs, k, hk, h => by
    unfold readNum at h ⊢
    split at h
    · simp at h
    · next h1 =>
      rw [if_neg h1]
      split at h
      · next h2 => rw [if_pos h2]; simp only; omega
      · next h2 =>
        rw [if_neg h2]
        simp only at h ⊢
        split at h
        · next h3 =>
          rw [if_pos h3]
          have := readNum_pos cs (k + 1) (by omega) h3
          simp only
          omega
        · next h3 => simp [h3] at h
theorem readNum_one : ∀ (l : List UInt8) (k : Nat), (readNum k l).2.2 = 0 → numForm (readNum k l).1 = l.take (readNum k l).2.1
  | [], k, h => by simp [readNum] at h
  | c :: cs, k, h => by
    unfold readNum at h ⊢
    split at h
    · simp at h
    · next h1 =>
      rw [if_neg h1]
      split at h
      · next h2 => rw [if_pos h2]; simp only; rw [numForm_lo h2]; simp
      · next h2 =>
        rw [if_neg h2]
        simp only at h ⊢
        split at h
        · next h3 =>
          rw [if_pos h3]
          have hp := readNum_pos cs (k + 1) (by omega) h3
          have ih := readNum_one cs (k + 1) h3
          have hc := c.toNat_lt
          simp only
          rw [numForm_hi (by omega), List.take_succ_cons, ← ih]
          congr 1
          · apply UInt8.toNat_inj.1
            rw [ofNat_small (by omega)]
            omega
          · congr 1
            omega
        · next h3 => simp [h3] at h
theorem getNumAt_one {l : List UInt8} {p : Nat} (h : (getNumAt l p).2.2 = 0) : numForm (getNumAt l p).1 = (l.drop p).take ((getNumAt l p).2.1 - p) := by
  unfold getNumAt at h ⊢
  simp only at h ⊢
  split at h
  · next e =>
    rw [if_pos e]
    simp only
    rw [readNum_one _ _ e, Nat.add_sub_cancel_left]
  · next e => simp [e] at h
theorem getNum_one {l : List UInt8} {p : Int} (h : (getNum l p).2.2 = 0) : numForm (getNum l p).1 = (l.drop p.toNat).take ((getNum l p).2.1 - p.toNat) := by
  unfold getNum at h ⊢
  split at h
  · next e => rw [if_pos e]; exact getNumAt_one h
  · simp at h

/-- two pieces that lie end to end -/
theorem take_join (l : List UInt8) {a b c : Nat} (h1 : a ≤ b) (h2 : b ≤ c) : (l.drop a).take (b - a) ++ (l.drop b).take (c - b) = (l.drop a).take (c - a) := by
  have e : l.drop b = (l.drop a).drop (b - a) := by rw [List.drop_drop, show a + (b - a) = b from by omega]
  rw [e, show c - a = (b - a) + (c - b) from by omega, List.take_add]

theorem getText_one {l : List UInt8} {p most : Int} (h : (getText l p most).2.2 = 0) : textForm (getText l p most).1 = (l.drop p.toNat).take ((getText l p most).2.1 - p.toNat) := by
  unfold getText at h ⊢
  simp only at h ⊢
  split at h
  · next h1 => exact absurd h h1
  · next h1 =>
    rw [if_neg h1]
    have hb := getNum_bound (l := l) (p := p) (by omega)
    have ho := getNum_one (l := l) (p := p) (by omega)
    split at h
    · simp at h
    · next h2 =>
      rw [if_neg h2]
      split at h
      · simp at h
      · next h3 =>
        rw [if_neg h3]
        simp only
        have hlen : ((l.drop (getNum l p).2.1).take (getNum l p).1).length = (getNum l p).1 := by
          rw [List.length_take, List.length_drop]
          omega
        rw [textForm, hlen, ho]
        have := take_join l (a := p.toNat) (b := (getNum l p).2.1) (c := (getNum l p).2.1 + (getNum l p).1) (by omega) (by omega)
        rw [Nat.add_sub_cancel_left] at this
        exact this
theorem getText_place {l : List UInt8} {p most : Int} (h : (getText l p most).2.2 = 0) : 0 ≤ p ∧ p < (getText l p most).2.1 ∧ (getText l p most).2.1 ≤ l.length := by
  unfold getText at h ⊢
  simp only at h ⊢
  split at h
  · next h1 => exact absurd h h1
  · next h1 =>
    rw [if_neg h1]
    have hb := getNum_bound (l := l) (p := p) (by omega)
    split at h
    · simp at h
    · next h2 =>
      rw [if_neg h2]
      split at h
      · simp at h
      · next h3 =>
        rw [if_neg h3]
        simp only
        omega
theorem getTextsFrom_one (l : List UInt8) (most : Int) : ∀ (m p : Nat), p ≤ l.length → (getTextsFrom l most m p).2.2 = 0 →
    (getTextsFrom l most m p).1.length = m ∧ p ≤ (getTextsFrom l most m p).2.1 ∧ (getTextsFrom l most m p).2.1 ≤ l.length ∧ textsBody (getTextsFrom l most m p).1 = (l.drop p).take ((getTextsFrom l most m p).2.1 - p)
  | 0, p, hp, _ => by simp [getTextsFrom, textsBody, hp]
  | m + 1, p, hp, h => by
    unfold getTextsFrom at h ⊢
    simp only at h ⊢
    split at h
    · next h1 => exact absurd h h1
    · next h1 =>
      rw [if_neg h1]
      have hb := getText_place (l := l) (p := p) (most := most) (by omega)
      have ho := getText_one (l := l) (p := p) (most := most) (by omega)
      split at h
      · next h2 => exact absurd h h2
      · next h2 =>
        rw [if_neg h2]
        obtain ⟨i1, i2, i3, i4⟩ := getTextsFrom_one l most m (getText l p most).2.1 (by omega) (by omega)
        simp only [List.length_cons, textsBody]
        refine ⟨by omega, by omega, by omega, ?_⟩
        rw [ho, i4, Int.toNat_natCast]
        exact take_join l (by omega) (by omega)
theorem getTexts_one {l : List UInt8} {p count most : Int} (h : (getTexts l p count most).2.2 = 0) :
    0 ≤ p ∧ p < (getTexts l p count most).2.1 ∧ (getTexts l p count most).2.1 ≤ l.length ∧ textsForm (getTexts l p count most).1 = (l.drop p.toNat).take ((getTexts l p count most).2.1 - p.toNat) := by
  unfold getTexts at h ⊢
  simp only at h ⊢
  split at h
  · next h1 => exact absurd h h1
  · next h1 =>
    rw [if_neg h1]
    have hb := getNum_bound (l := l) (p := p) (by omega)
    have ho := getNum_one (l := l) (p := p) (by omega)
    split at h
    · simp at h
    · next h2 =>
      rw [if_neg h2]
      obtain ⟨i1, i2, i3, i4⟩ := getTextsFrom_one l most (getNum l p).1 (getNum l p).2.1 (by omega) h
      refine ⟨by omega, by omega, by omega, ?_⟩
      rw [textsForm, i1, ho, i4]
      exact take_join l (by omega) (by omega)
theorem getTexts_num {l : List UInt8} {p count most : Int} (h : (getTexts l p count most).2.2 = 0) : (getNum l p).2.2 = 0 := by
  unfold getTexts at h
  simp only at h
  split at h
  · next h1 => exact absurd h h1
  · next h1 => omega

/-! ### what is put is read as it was -/
theorem readNum_put : ∀ (j n k : Nat) (more : List UInt8), j + k = 8 → n < 128 ^ (j + 1) → (k = 0 ∨ 0 < n) → readNum k (numForm n ++ more) = (n, (numForm n).length, 0)
  | 0, n, k, more, hj, hn, hk => by
    have hn' : n < 128 := by simpa using hn
    rw [numForm_lo hn']
    have e := ofNat_small (k := n) (by omega)
    simp only [List.cons_append, List.nil_append, readNum, e]
    rw [if_neg (by omega), if_pos hn']
    simp
  | j + 1, n, k, more, hj, hn, hk => by
    by_cases h : n < 128
    · rw [numForm_lo h]
      have e := ofNat_small (k := n) (by omega)
      simp only [List.cons_append, List.nil_append, readNum, e]
      rw [if_neg (by omega), if_pos h]
      simp
    · rw [numForm_hi (by omega)]
      have e := ofNat_small (k := n % 128 + 128) (by omega)
      have ih := readNum_put j (n / 128) (k + 1) more (by omega) (by rw [Nat.pow_succ] at hn; omega) (by omega)
      simp only [List.cons_append, readNum, e, ih]
      rw [if_neg (by omega), if_neg (by omega)]
      simp only [if_true, List.length_cons, Prod.mk.injEq, and_true]
      omega
theorem readNum_put0 {n : Nat} (h : n < 9223372036854775808) (more : List UInt8) : readNum 0 (numForm n ++ more) = (n, (numForm n).length, 0) :=
  readNum_put 8 n 0 more rfl (by omega) (.inl rfl)
theorem getNum_put {l more : List UInt8} {n p : Nat} (hn : n < 9223372036854775808) (hp : p ≤ l.length) (h : l.drop p = numForm n ++ more) : getNum l p = (n, p + (numForm n).length, 0) := by
  unfold getNum
  rw [if_pos (by omega), Int.toNat_natCast]
  unfold getNumAt
  rw [h, readNum_put0 hn]
  simp
theorem drop_more {l a more : List UInt8} {p : Nat} (h : l.drop p = a ++ more) : l.drop (p + a.length) = more := by
  rw [← List.drop_drop, h]
  simp
theorem drop_len {l a : List UInt8} {p : Nat} (h : l.drop p = a) (hp : p ≤ l.length) : l.length = p + a.length := by
  have := congrArg List.length h
  rw [List.length_drop] at this
  omega
theorem getText_put {l s more : List UInt8} {p : Nat} {most : Int} (hs : s.length < 9223372036854775808) (hm : s.length ≤ most) (hp : p ≤ l.length) (h : l.drop p = textForm s ++ more) :
    getText l p most = (s, p + (textForm s).length, 0) := by
  have h' : l.drop p = numForm s.length ++ (s ++ more) := by rw [h, textForm, List.append_assoc]
  have hlen := drop_len h' hp
  simp only [List.length_append] at hlen
  unfold getText
  rw [getNum_put hs hp h']
  simp only
  rw [if_neg (by omega), if_neg (by omega), if_neg (by omega)]
  rw [drop_more h', textForm, List.length_append]
  simp only [List.take_left, Prod.mk.injEq, and_true, true_and]
  omega
theorem getTextsFrom_put (most : Int) : ∀ (L : List (List UInt8)) (l more : List UInt8) (p : Nat), (∀ s ∈ L, s.length < 9223372036854775808 ∧ s.length ≤ most) → p ≤ l.length → l.drop p = textsBody L ++ more →
    getTextsFrom l most L.length p = (L, p + (textsBody L).length, 0)
  | [], l, more, p, _, _, _ => by simp [getTextsFrom, textsBody]
  | s :: L, l, more, p, hL, hp, h => by
    have h' : l.drop p = textForm s ++ (textsBody L ++ more) := by rw [h, textsBody, List.append_assoc]
    have hlen := drop_len h' hp
    simp only [List.length_append] at hlen
    have h1 := getText_put (hL s (by simp)).1 (hL s (by simp)).2 hp h'
    have h2 := getTextsFrom_put most L l more (p + (textForm s).length) (fun x hx => hL x (by simp [hx])) (by omega) (drop_more h')
    simp only [List.length_cons, getTextsFrom, h1, h2]
    simp only [ne_eq, not_true_eq_false, if_false, textsBody, List.length_append, Prod.mk.injEq, and_true, true_and]
    omega
theorem getTexts_put {L : List (List UInt8)} {l more : List UInt8} {p : Nat} {count most : Int} (hL : ∀ s ∈ L, s.length < 9223372036854775808 ∧ s.length ≤ most) (hn : L.length < 9223372036854775808) (hc : L.length ≤ count)
    (hp : p ≤ l.length) (h : l.drop p = textsForm L ++ more) : getTexts l p count most = (L, p + (textsForm L).length, 0) := by
  have h' : l.drop p = numForm L.length ++ (textsBody L ++ more) := by rw [h, textsForm, List.append_assoc]
  have hlen := drop_len h' hp
  simp only [List.length_append] at hlen
  unfold getTexts
  rw [getNum_put hn hp h']
  simp only
  rw [if_neg (by omega), if_neg (by omega), getTextsFrom_put most L l more _ hL (by omega) (drop_more h')]
  simp only [textsForm, List.length_append, Prod.mk.injEq, and_true, true_and]
  omega

/-! ### of a form that is cut off more is asked for -/
theorem readNum_cut : ∀ (j n k i : Nat), j + k = 8 → n < 128 ^ (j + 1) → i < (numForm n).length → readNum k ((numForm n).take i) = (0, 0, 2)
  | _, n, k, 0, _, _, _ => by simp [readNum]
  | 0, n, k, i + 1, hj, hn, hi => by
    have hn' : n < 128 := by simpa using hn
    rw [numForm_lo hn'] at hi
    simp at hi
  | j + 1, n, k, i + 1, hj, hn, hi => by
    by_cases h : n < 128
    · rw [numForm_lo h] at hi
      simp at hi
    · rw [numForm_hi (by omega)] at hi ⊢
      have e := ofNat_small (k := n % 128 + 128) (by omega)
      have ih := readNum_cut j (n / 128) (k + 1) i (by omega) (by rw [Nat.pow_succ] at hn; omega) (by simpa using hi)
      simp only [List.take_succ_cons, readNum, e, ih]
      rw [if_neg (by omega), if_neg (by omega)]
      simp
theorem getNum_cut {l : List UInt8} {n p i : Nat} (hn : n < 9223372036854775808) (hp : p ≤ l.length) (hi : i < (numForm n).length) (h : l.drop p = (numForm n).take i) : getNum l p = (0, 0, 2) := by
  unfold getNum
  rw [if_pos (by omega), Int.toNat_natCast]
  unfold getNumAt
  rw [h, readNum_cut 8 n 0 i rfl (by omega) hi]
  simp
theorem getText_cut {l s : List UInt8} {p i : Nat} {most : Int} (hs : s.length < 9223372036854775808) (hm : s.length ≤ most) (hp : p ≤ l.length) (hi : i < (textForm s).length) (h : l.drop p = (textForm s).take i) :
    getText l p most = ([], 0, 2) := by
  rw [textForm, List.length_append] at hi
  unfold getText
  by_cases h1 : i < (numForm s.length).length
  · have h' : l.drop p = (numForm s.length).take i := by rw [h, textForm, List.take_append_of_le_length (by omega)]
    rw [getNum_cut hs hp h1 h']
    simp
  · have h' : l.drop p = numForm s.length ++ s.take (i - (numForm s.length).length) := by
      rw [h, textForm, List.take_append, List.take_of_length_le (by omega)]
    have hlen := drop_len h' hp
    simp only [List.length_append, List.length_take] at hlen
    rw [getNum_put hs hp h']
    simp only
    rw [if_neg (by omega), if_neg (by omega), if_pos (by omega)]
theorem getTextsFrom_cut (most : Int) : ∀ (L : List (List UInt8)) (l : List UInt8) (p i : Nat), (∀ s ∈ L, s.length < 9223372036854775808 ∧ s.length ≤ most) → p ≤ l.length → i < (textsBody L).length → l.drop p = (textsBody L).take i →
    getTextsFrom l most L.length p = ([], 0, 2)
  | [], l, p, i, _, _, hi, _ => by simp [textsBody] at hi
  | s :: L, l, p, i, hL, hp, hi, h => by
    rw [textsBody, List.length_append] at hi
    by_cases h1 : i < (textForm s).length
    · have h' : l.drop p = (textForm s).take i := by rw [h, textsBody, List.take_append_of_le_length (by omega)]
      have := getText_cut (most := most) (hL s (by simp)).1 (hL s (by simp)).2 hp h1 h'
      simp [getTextsFrom, this]
    · have h' : l.drop p = textForm s ++ (textsBody L).take (i - (textForm s).length) := by
        rw [h, textsBody, List.take_append, List.take_of_length_le (by omega)]
      have hlen := drop_len h' hp
      simp only [List.length_append, List.length_take] at hlen
      have e1 := getText_put (hL s (by simp)).1 (hL s (by simp)).2 hp h'
      have e2 := getTextsFrom_cut most L l (p + (textForm s).length) (i - (textForm s).length) (fun x hx => hL x (by simp [hx])) (by omega) (by omega) (drop_more h')
      simp [getTextsFrom, e1, e2]
theorem getTexts_cut {L : List (List UInt8)} {l : List UInt8} {p i : Nat} {count most : Int} (hL : ∀ s ∈ L, s.length < 9223372036854775808 ∧ s.length ≤ most) (hn : L.length < 9223372036854775808) (hc : L.length ≤ count)
    (hp : p ≤ l.length) (hi : i < (textsForm L).length) (h : l.drop p = (textsForm L).take i) : getTexts l p count most = ([], 0, 2) := by
  rw [textsForm, List.length_append] at hi
  unfold getTexts
  by_cases h1 : i < (numForm L.length).length
  · have h' : l.drop p = (numForm L.length).take i := by rw [h, textsForm, List.take_append_of_le_length (by omega)]
    rw [getNum_cut hn hp h1 h']
    simp
  · have h' : l.drop p = numForm L.length ++ (textsBody L).take (i - (numForm L.length).length) := by
      rw [h, textsForm, List.take_append, List.take_of_length_le (by omega)]
    have hlen := drop_len h' hp
    simp only [List.length_append, List.length_take] at hlen
    rw [getNum_put hn hp h']
    simp only
    rw [if_neg (by omega), if_neg (by omega)]
    exact getTextsFrom_cut most L l _ (i - (numForm L.length).length) hL (by omega) (by omega) (drop_more h')

end Go.Proofs.Ytdfhnjocpfjagaa

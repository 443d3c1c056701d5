/-
  Layer 3 as plain mathematics: values, rows, their order, keys, and what is read of bytes. Nothing of the translated program is named here.
-/
import Derived.Lib.Bytealg
import Derived.Lib.Strings
namespace Go.Proofs.Ytdfhnjocpfjagaa
open Go.Lib (compareBytes)

/-- a value: its kind, its number, its text -/
structure TVal where
  k : Int
  n : Int
  s : ByteArray
def TVal.t (v : TVal) : List UInt8 := v.s.data.toList
theorem bytes_ext {a b : ByteArray} (h : a.data.toList = b.data.toList) : a = b := by
  obtain ⟨⟨a⟩⟩ := a
  obtain ⟨⟨b⟩⟩ := b
  simp only at h
  rw [h]
theorem TVal.same {v w : TVal} (hk : v.k = w.k) (hn : v.n = w.n) (ht : v.t = w.t) : v = w := by
  obtain ⟨k, n, s⟩ := v
  obtain ⟨k', n', s'⟩ := w
  have : s = s' := bytes_ext ht
  simp_all
def InI64 (n : Int) : Prop := -9223372036854775808 ≤ n ∧ n < 9223372036854775808

def goodB (k n : Int) (s : ByteArray) : Bool :=
  if k = 0 then n == 0 && s.toList.isEmpty else if k = 1 then s.toList.isEmpty else if k = 2 then n == 0 && decide (s.size ≤ 32) else false
def goodV (v : TVal) : Bool := goodB v.k v.n v.s
theorem goodV_iff (v : TVal) : goodV v = true ↔ (v.k = 0 ∧ v.n = 0 ∧ v.t = []) ∨ (v.k = 1 ∧ v.t = []) ∨ (v.k = 2 ∧ v.n = 0 ∧ v.t.length ≤ 32) := by
  unfold goodV goodB TVal.t
  rw [Lib.toList_data, Lib.size_eq]
  by_cases h0 : v.k = 0
  · simp [h0]
  · by_cases h1 : v.k = 1
    · simp [h1]
    · by_cases h2 : v.k = 2
      · simp [h2]
      · simp [h0, h1, h2]
/-- 0, or the error of a row -/
def rowErr (l : List TVal) : Nat := if 4 < l.length then 4 else if l.all goodV then 0 else 1
theorem rowErr_ok {l : List TVal} : rowErr l = 0 ↔ l.length ≤ 4 ∧ ∀ v ∈ l, goodV v = true := by
  unfold rowErr
  by_cases h : 4 < l.length
  · rw [if_pos h]
    exact ⟨fun h => by omega, fun ⟨h', _⟩ => by omega⟩
  · rw [if_neg h]
    by_cases ha : l.all goodV = true
    · rw [if_pos ha]
      exact ⟨fun _ => ⟨by omega, List.all_eq_true.1 ha⟩, fun _ => rfl⟩
    · rw [if_neg ha]
      exact ⟨fun h => by omega, fun h' => absurd (List.all_eq_true.2 h'.2) ha⟩

/-! ### how rows stand -/
def sgn (a b : Int) : Int := if a < b then -1 else if b < a then 1 else 0
def cmpV (v w : TVal) : Int := if v.k ≠ w.k then sgn v.k w.k else if v.n ≠ w.n then sgn v.n w.n else compareBytes v.t w.t
def cmpRow : List TVal → List TVal → Int
  | [], [] => 0
  | [], _ :: _ => -1
  | _ :: _, [] => 1
  | v :: l, w :: m => if cmpV v w = 0 then cmpRow l m else cmpV v w
/-- how two rows stand; 0, if one is none -/
def cmpT (l m : List TVal) : Int := if rowErr l ≠ 0 ∨ rowErr m ≠ 0 then 0 else cmpRow l m

/-! ### keys -/
/-- the lowest k digits of m to the base 256, the highest first -/
def be : Nat → Nat → List UInt8
  | 0, _ => []
  | k + 1, m => UInt8.ofNat (m / 256 ^ k % 256) :: be k m
def numB : Nat → List UInt8 → Nat
  | x, [] => x
  | x, b :: l => numB (x * 256 + b.toNat) l
def esc1 (c : UInt8) : List UInt8 := if c = 0 then [0, 255] else [c]
def esc : List UInt8 → List UInt8
  | [] => []
  | c :: l => esc1 c ++ esc l
def keyV (v : TVal) : List UInt8 :=
  if v.k = 1 then 2 :: be 8 (v.n + 9223372036854775808).toNat else if v.k = 2 then 3 :: (esc v.t ++ [0, 0]) else [1]
def keyL : List TVal → List UInt8
  | [] => []
  | v :: l => keyV v ++ keyL l
/-- the key as a text; empty where the row is none -/
def keyT (l : List TVal) : List UInt8 := if rowErr l = 0 then keyL l else []

theorem be_len (k m : Nat) : (be k m).length = k := by
  induction k with
  | zero => rfl
  | succ k ih => simp [be, ih]
theorem esc_snoc (l : List UInt8) (c : UInt8) : esc (l ++ [c]) = esc l ++ esc1 c := by
  induction l with
  | nil => simp [esc]
  | cons d l ih => simp [esc, ih]
theorem esc_len (l : List UInt8) : (esc l).length ≤ 2 * l.length := by
  induction l with
  | nil => simp [esc]
  | cons c l ih =>
    have : (esc1 c).length ≤ 2 := by unfold esc1; split <;> simp
    simp only [esc, List.length_append, List.length_cons]
    omega
theorem keyL_snoc (l : List TVal) (v : TVal) : keyL (l ++ [v]) = keyL l ++ keyV v := by
  induction l with
  | nil => simp [keyL]
  | cons d l ih => simp [keyL, ih]
theorem keyV_len {v : TVal} (h : goodV v = true) : (keyV v).length ≤ 67 := by
  unfold keyV
  split
  · simp [be_len]
  · split
    · have := esc_len v.t
      rw [goodV_iff] at h
      simp only [List.length_cons, List.length_append, List.length_nil]
      omega
    · simp
theorem keyL_len {l : List TVal} (h : ∀ v ∈ l, goodV v = true) : (keyL l).length ≤ 67 * l.length := by
  induction l with
  | nil => simp [keyL]
  | cons v l ih =>
    have h1 := keyV_len (h v (by simp))
    have h2 := ih fun v hv => h v (by simp [hv])
    simp only [keyL, List.length_append, List.length_cons]
    omega

theorem be_succ (k m : Nat) : be (k + 1) m = UInt8.ofNat (m / 256 ^ k % 256) :: be k m := rfl
theorem be_take (i m : Nat) : ∀ (k : Nat), i < k → (be k m).take (i + 1) = (be k m).take i ++ [UInt8.ofNat (m / 256 ^ (k - 1 - i) % 256)] := by
  induction i with
  | zero =>
    intro k hk
    obtain ⟨j, rfl⟩ : ∃ j, k = j + 1 := ⟨k - 1, by omega⟩
    simp [be]
  | succ i ih =>
    intro k hk
    obtain ⟨j, rfl⟩ : ∃ j, k = j + 1 := ⟨k - 1, by omega⟩
    rw [be_succ, List.take_succ_cons, List.take_succ_cons, ih j (by omega), show j + 1 - 1 - (i + 1) = j - 1 - i from by omega]
    rfl

/-! ### the keys stand as the rows do -/
theorem cmpB_cons (a b : UInt8) (as bs : List UInt8) : compareBytes (a :: as) (b :: bs) = if a < b then -1 else if b < a then 1 else compareBytes as bs := rfl
theorem cmpB_app (p a b : List UInt8) : compareBytes (p ++ a) (p ++ b) = compareBytes a b := by
  induction p with
  | nil => rfl
  | cons c p ih => simp [compareBytes, ih]
theorem cmpB_self (a : List UInt8) : compareBytes a a = 0 := by
  induction a with
  | nil => rfl
  | cons c p ih => simp [compareBytes, ih]
theorem cmpB_zero : ∀ {a b : List UInt8}, compareBytes a b = 0 → a = b
  | [], [], _ => rfl
  | [], _ :: _, h => by simp [compareBytes] at h
  | _ :: _, [], h => by simp [compareBytes] at h
  | x :: a, y :: b, h => by
    unfold compareBytes at h
    split at h
    · omega
    · split at h
      · omega
      · next h1 h2 =>
        have : x = y := UInt8.le_antisymm (UInt8.not_lt.1 h2) (UInt8.not_lt.1 h1)
        rw [this, cmpB_zero h]
theorem cmpB_neg : ∀ (a b : List UInt8), compareBytes b a = - compareBytes a b
  | [], [] => rfl
  | [], _ :: _ => rfl
  | _ :: _, [] => rfl
  | x :: a, y :: b => by
    have := cmpB_neg a b
    unfold compareBytes
    by_cases h1 : x < y
    · have h2 : ¬ y < x := UInt8.not_lt.2 (UInt8.le_of_lt h1)
      simp [h1, h2]
    · by_cases h2 : y < x
      · simp [h1, h2]
      · simp [h1, h2, this]
theorem cmpB_cases (a b : List UInt8) : compareBytes a b = -1 ∨ compareBytes a b = 0 ∨ compareBytes a b = 1 := by
  induction a generalizing b with
  | nil => cases b <;> simp [compareBytes]
  | cons x a ih =>
    cases b with
    | nil => simp [compareBytes]
    | cons y b =>
      unfold compareBytes
      split
      · simp
      · split
        · simp
        · exact ih b
theorem sgn_self (a : Int) : sgn a a = 0 := by unfold sgn; omega
theorem sgn_zero {a b : Int} (h : sgn a b = 0) : a = b := by unfold sgn at h; omega
theorem sgn_neg (a b : Int) : sgn b a = - sgn a b := by unfold sgn; omega
theorem sgn_cases (a b : Int) : sgn a b = -1 ∨ sgn a b = 0 ∨ sgn a b = 1 := by unfold sgn; omega
theorem cmpV_cases (v w : TVal) : cmpV v w = -1 ∨ cmpV v w = 0 ∨ cmpV v w = 1 := by
  unfold cmpV
  split
  · exact sgn_cases _ _
  · split
    · exact sgn_cases _ _
    · exact cmpB_cases _ _
theorem cmpV_zero {v w : TVal} (h : cmpV v w = 0) : v = w := by
  unfold cmpV at h
  split at h
  · next hk => exact absurd (sgn_zero h) hk
  · next hk =>
    split at h
    · next hn => exact absurd (sgn_zero h) hn
    · next hn => exact TVal.same (by simpa using hk) (by simpa using hn) (cmpB_zero h)
theorem cmpV_self (v : TVal) : cmpV v v = 0 := by simp [cmpV, cmpB_self]
theorem cmpV_neg (v w : TVal) : cmpV w v = - cmpV v w := by
  unfold cmpV
  by_cases hk : v.k = w.k
  · by_cases hn : v.n = w.n
    · simp only [hk, hn, ne_eq, not_true, if_false]
      exact cmpB_neg _ _
    · have : w.n ≠ v.n := fun h => hn h.symm
      simp [hk, hn, this, sgn_neg v.n w.n]
  · have : w.k ≠ v.k := fun h => hk h.symm
    simp [hk, this, sgn_neg v.k w.k]
theorem cmpRow_neg : ∀ (l m : List TVal), cmpRow m l = - cmpRow l m
  | [], [] => rfl
  | [], _ :: _ => rfl
  | _ :: _, [] => rfl
  | v :: l, w :: m => by
    have := cmpRow_neg l m
    unfold cmpRow
    rw [cmpV_neg v w]
    by_cases h : cmpV v w = 0
    · simp [h, this]
    · have : ¬ (- cmpV v w = 0) := by omega
      simp [h, this]
theorem cmpRow_cases (l m : List TVal) : cmpRow l m = -1 ∨ cmpRow l m = 0 ∨ cmpRow l m = 1 := by
  induction l generalizing m with
  | nil => cases m <;> simp [cmpRow]
  | cons v l ih =>
    cases m with
    | nil => simp [cmpRow]
    | cons w m =>
      unfold cmpRow
      split
      · exact ih m
      · exact cmpV_cases v w

theorem u8_ofNat_toNat {q : Nat} (h : q < 256) : (UInt8.ofNat q).toNat = q := by simp; omega
theorem u8_lt {a b : Nat} (ha : a < 256) (hb : b < 256) : (UInt8.ofNat a < UInt8.ofNat b) ↔ a < b := by
  rw [UInt8.lt_iff_toNat_lt, u8_ofNat_toNat ha, u8_ofNat_toNat hb]
theorem digit (k m : Nat) : m % 256 ^ (k + 1) = m / 256 ^ k % 256 * 256 ^ k + m % 256 ^ k := by
  rw [Nat.pow_succ, Nat.mod_mul, Nat.mul_comm, Nat.add_comm]
theorem cmpB_be (k m m' : Nat) (r r' : List UInt8) :
    compareBytes (be k m ++ r) (be k m' ++ r') = if m % 256 ^ k < m' % 256 ^ k then -1 else if m' % 256 ^ k < m % 256 ^ k then 1 else compareBytes r r' := by
  induction k with
  | zero => simp [be, Nat.mod_one]
  | succ k ih =>
    rw [be_succ, be_succ, List.cons_append, List.cons_append, cmpB_cons, ih, digit k m, digit k m']
    have hP : 0 < 256 ^ k := Nat.pow_pos (by omega)
    have hq : m / 256 ^ k % 256 < 256 := Nat.mod_lt _ (by omega)
    have hq' : m' / 256 ^ k % 256 < 256 := Nat.mod_lt _ (by omega)
    have hr := Nat.mod_lt m hP
    have hr' := Nat.mod_lt m' hP
    generalize m / 256 ^ k % 256 = q at *
    generalize m' / 256 ^ k % 256 = q' at *
    generalize m % 256 ^ k = x at *
    generalize m' % 256 ^ k = x' at *
    generalize 256 ^ k = P at *
    simp only [u8_lt hq hq', u8_lt hq' hq]
    rcases Nat.lt_trichotomy q q' with h | h | h
    · have := Nat.mul_le_mul_right P (show q + 1 ≤ q' from h)
      rw [Nat.add_mul] at this
      rw [if_pos h, if_pos (by omega)]
    · subst h
      simp
    · have := Nat.mul_le_mul_right P (show q' + 1 ≤ q from h)
      rw [Nat.add_mul] at this
      rw [if_neg (by omega), if_pos h, if_neg (by omega), if_pos (by omega)]

theorem u8_pos {c : UInt8} (h : c ≠ 0) : 0 < c := by
  have : c.toNat ≠ 0 := fun e => h (UInt8.toNat_inj.1 (by rw [e]; rfl))
  rw [UInt8.lt_iff_toNat_lt]
  show 0 < c.toNat
  omega
theorem esc_cmp : ∀ (s t r r' : List UInt8), s ≠ t → compareBytes (esc s ++ 0 :: 0 :: r) (esc t ++ 0 :: 0 :: r') = compareBytes s t
  | [], [], _, _, h => absurd rfl h
  | [], d :: t, r, r', _ => by
    by_cases hd : d = 0
    · subst hd
      simp [esc, esc1, compareBytes]
    · have := u8_pos hd
      simp [esc, esc1, hd, compareBytes, this]
  | c :: s, [], r, r', _ => by
    by_cases hc : c = 0
    · subst hc
      simp [esc, esc1, compareBytes]
    · have h1 := u8_pos hc
      have h2 : ¬ c < 0 := UInt8.not_lt.2 (UInt8.le_of_lt h1)
      simp [esc, esc1, hc, compareBytes, h1, h2]
  | c :: s, d :: t, r, r', h => by
    by_cases hcd : c = d
    · subst hcd
      have := esc_cmp s t r r' (fun e => h (by rw [e]))
      simp only [esc, List.append_assoc]
      rw [cmpB_app, this]
      simp [compareBytes]
    · by_cases hc : c = 0
      · subst hc
        have h1 := u8_pos (fun e => hcd e.symm : d ≠ 0)
        have hd : d ≠ 0 := fun e => hcd e.symm
        simp [esc, esc1, hd, compareBytes, h1]
      · by_cases hd : d = 0
        · subst hd
          have h1 := u8_pos hc
          have h2 : ¬ c < 0 := UInt8.not_lt.2 (UInt8.le_of_lt h1)
          simp [esc, esc1, hc, compareBytes, h1, h2]
        · have : c < d ∨ d < c := by
            rcases Nat.lt_or_ge c.toNat d.toNat with h' | h'
            · exact .inl (UInt8.lt_iff_toNat_lt.2 h')
            · right
              have : c.toNat ≠ d.toNat := fun e => hcd (UInt8.toNat_inj.1 e)
              exact UInt8.lt_iff_toNat_lt.2 (by omega)
          rcases this with h' | h'
          · simp [esc, esc1, hc, hd, compareBytes, h']
          · have h2 : ¬ c < d := UInt8.not_lt.2 (UInt8.le_of_lt h')
            simp [esc, esc1, hc, hd, compareBytes, h', h2]

theorem keyV_cmp {v w : TVal} (hv : goodV v = true) (hw : goodV w = true) (nv : InI64 v.n) (nw : InI64 w.n) (h : cmpV v w ≠ 0) (r r' : List UInt8) :
    compareBytes (keyV v ++ r) (keyV w ++ r') = cmpV v w := by
  rw [goodV_iff] at hv hw
  obtain ⟨k, n, s⟩ := v
  obtain ⟨k', n', s'⟩ := w
  simp only [TVal.t] at hv hw
  simp only [InI64] at nv nw
  unfold cmpV keyV at *
  simp only [TVal.t] at h ⊢
  rcases hv with ⟨rfl, rfl, hs⟩ | ⟨rfl, hs⟩ | ⟨rfl, rfl, hs⟩ <;> rcases hw with ⟨rfl, rfl, hs'⟩ | ⟨rfl, hs'⟩ | ⟨rfl, rfl, hs'⟩
  · simp [hs, hs', compareBytes] at h
  · simp [sgn, compareBytes]
  · simp [sgn, compareBytes]
  · simp [sgn, compareBytes]
  · by_cases hn : n = n'
    · simp [hn, hs, hs', compareBytes] at h
    · rw [if_pos rfl, if_pos rfl, List.cons_append, List.cons_append]
      rw [cmpB_cons, cmpB_be]
      simp only [UInt8.lt_irrefl, if_false, ne_eq, not_true, hn, not_false_iff, if_true]
      have e1 : (n + 9223372036854775808).toNat % 256 ^ 8 = (n + 9223372036854775808).toNat := Nat.mod_eq_of_lt (by omega)
      have e2 : (n' + 9223372036854775808).toNat % 256 ^ 8 = (n' + 9223372036854775808).toNat := Nat.mod_eq_of_lt (by omega)
      rw [e1, e2]
      unfold sgn
      split
      · rw [if_pos (by omega)]
      · rw [if_pos (by omega), if_neg (by omega), if_pos (by omega)]
  · simp [sgn, compareBytes]
  · simp [sgn, compareBytes]
  · simp [sgn, compareBytes]
  · simp only [ne_eq, not_true, if_false] at h ⊢
    have hne : s.data.toList ≠ s'.data.toList := fun e => h (by rw [e]; exact cmpB_self _)
    have h21 : ¬ ((2 : Int) = 1) := by decide
    simp only [h21, if_false, if_true, List.cons_append, List.append_assoc, List.nil_append, cmpB_cons, UInt8.lt_irrefl]
    exact esc_cmp _ _ _ _ hne

theorem keyV_pos (v : TVal) : ∃ c r, keyV v = c :: r ∧ c ≠ 0 := by
  unfold keyV
  split
  · exact ⟨_, _, rfl, by decide⟩
  · split
    · exact ⟨_, _, rfl, by decide⟩
    · exact ⟨_, _, rfl, by decide⟩
def AllGood (l : List TVal) : Prop := ∀ v ∈ l, goodV v = true ∧ InI64 v.n
theorem keyL_cmp : ∀ (l m : List TVal), AllGood l → AllGood m → compareBytes (keyL l) (keyL m) = cmpRow l m
  | [], [], _, _ => rfl
  | [], w :: m, _, _ => by
    obtain ⟨c, r, h, _⟩ := keyV_pos w
    simp [keyL, h, compareBytes, cmpRow]
  | v :: l, [], _, _ => by
    obtain ⟨c, r, h, _⟩ := keyV_pos v
    simp [keyL, h, compareBytes, cmpRow]
  | v :: l, w :: m, hl, hm => by
    have ih := keyL_cmp l m (fun x hx => hl x (by simp [hx])) (fun x hx => hm x (by simp [hx]))
    have h1 := hl v (by simp)
    have h2 := hm w (by simp)
    unfold cmpRow keyL
    by_cases h : cmpV v w = 0
    · rw [if_pos h, ← cmpV_zero h, cmpB_app, ih]
    · rw [if_neg h]
      exact keyV_cmp h1.1 h2.1 h1.2 h2.2 h _ _

end Go.Proofs.Ytdfhnjocpfjagaa

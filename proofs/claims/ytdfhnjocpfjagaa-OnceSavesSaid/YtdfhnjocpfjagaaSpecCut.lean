/-
  Layer 3 as plain mathematics, the second part: what is read of bytes, that it is what was put, and the next text. Nothing of the translated program is named here.
-/
import Derived.Test.YtdfhnjocpfjagaaSpecTuple
namespace Go.Proofs.Ytdfhnjocpfjagaa
open Go.Lib (compareBytes)

/-- what a reader finds: something and what is behind it, or an error -/
inductive Res (α : Type) where
  | ok (a : α) (rest : List UInt8)
  | err (e : Nat)

def cutInt (s : List UInt8) : Res TVal :=
  if s.length < 8 then .err 2 else .ok ⟨1, (numB 0 (s.take 8) : Int) - 9223372036854775808, ⟨#[]⟩⟩ (s.drop 8)
def cutText (acc : List UInt8) : List UInt8 → Res TVal
  | [] => .err 2
  | [_] => .err 2
  | c :: d :: r =>
    if c ≠ 0 then cutText (acc ++ [c]) (d :: r)
    else if d = 255 then cutText (acc ++ [0]) r
    else if d ≠ 0 then .err 3
    else if 32 < acc.length then .err 4
    else .ok ⟨2, 0, ⟨acc.toArray⟩⟩ r
def cutVal : List UInt8 → Res TVal
  | [] => .err 3
  | c :: r => if c = 1 then .ok ⟨0, 0, ⟨#[]⟩⟩ r else if c = 2 then cutInt r else if c = 3 then cutText [] r else .err 3
theorem cutVal_cons (c : UInt8) (r : List UInt8) : cutVal (c :: r) = if c = 1 then .ok ⟨0, 0, ⟨#[]⟩⟩ r else if c = 2 then cutInt r else if c = 3 then cutText [] r else .err 3 := rfl
/-- does a value begin here? -/
def more : List UInt8 → Bool
  | [] => false
  | c :: _ => c != 0
/-- at most so many values -/
def cutL : Nat → List UInt8 → Res (List TVal)
  | 0, s => if more s then .err 4 else .ok [] s
  | j + 1, s => if more s then (match cutVal s with | .err e => .err e | .ok v r => (match cutL j r with | .err e => .err e | .ok l z => .ok (v :: l) z)) else .ok [] s

/-! ### numbers -/
theorem numB_be (x k m : Nat) : numB x (be k m) = x * 256 ^ k + m % 256 ^ k := by
  induction k generalizing x with
  | zero => simp [be, numB, Nat.mod_one]
  | succ k ih =>
    have hq : m / 256 ^ k % 256 < 256 := Nat.mod_lt _ (by omega)
    rw [be_succ]
    unfold numB
    rw [ih, u8_ofNat_toNat hq, digit, Nat.add_mul, Nat.pow_succ, Nat.mul_assoc, Nat.mul_comm 256 (256 ^ k)]
    omega
theorem numB_lin (l : List UInt8) (x : Nat) : numB x l = x * 256 ^ l.length + numB 0 l ∧ numB 0 l < 256 ^ l.length := by
  induction l generalizing x with
  | nil => simp [numB]
  | cons b l ih =>
    have h1 := (ih (x * 256 + b.toNat)).1
    have h2 := (ih (0 * 256 + b.toNat)).1
    have h3 := (ih 0).2
    have hb := b.toNat_lt
    unfold numB
    rw [h1, h2, List.length_cons, Nat.pow_succ]
    have e1 : (x * 256 + b.toNat) * 256 ^ l.length = x * 256 * 256 ^ l.length + b.toNat * 256 ^ l.length := Nat.add_mul _ _ _
    have e2 : (0 * 256 + b.toNat) * 256 ^ l.length = b.toNat * 256 ^ l.length := by rw [Nat.zero_mul, Nat.zero_add]
    have e3 : x * (256 ^ l.length * 256) = x * 256 * 256 ^ l.length := by rw [Nat.mul_assoc, Nat.mul_comm 256]
    have e4 : b.toNat * 256 ^ l.length ≤ 255 * 256 ^ l.length := Nat.mul_le_mul_right _ (by omega)
    rw [e1, e2, e3]
    constructor <;> omega
theorem numB_snoc (x : Nat) (l : List UInt8) (b : UInt8) : numB x (l ++ [b]) = numB x l * 256 + b.toNat := by
  induction l generalizing x with
  | nil => rfl
  | cons c l ih => exact ih _
theorem be_numB (l : List UInt8) (x : Nat) : be l.length (numB x l) = l := by
  induction l generalizing x with
  | nil => rfl
  | cons b l ih =>
    have hb := b.toNat_lt
    obtain ⟨h1, h2⟩ := numB_lin l (x * 256 + b.toNat)
    have hP : 0 < 256 ^ l.length := Nat.pow_pos (by omega)
    rw [List.length_cons, be_succ]
    unfold numB
    rw [ih]
    congr 1
    have e : numB (x * 256 + b.toNat) l / 256 ^ l.length = x * 256 + b.toNat := by
      rw [h1, Nat.mul_comm, Nat.mul_add_div hP, Nat.div_eq_of_lt h2, Nat.add_zero]
    rw [e]
    apply UInt8.toNat_inj.1
    rw [u8_ofNat_toNat (Nat.mod_lt _ (by omega))]
    omega
theorem numB_lt8 {l : List UInt8} (h : l.length ≤ 8) : numB 0 l < 18446744073709551616 := by
  have h1 := (numB_lin l 0).2
  have : 256 ^ l.length ≤ 256 ^ 8 := Nat.pow_le_pow_right (by omega) h
  omega

/-! ### what was put is read -/
theorem cutText_esc : ∀ (t acc r : List UInt8), (acc ++ t).length ≤ 32 → cutText acc (esc t ++ 0 :: 0 :: r) = .ok ⟨2, 0, ⟨(acc ++ t).toArray⟩⟩ r
  | [], acc, r, h => by
    have : ¬ 32 < acc.length := by simpa using h
    simp only [esc, List.nil_append, cutText]
    rw [if_neg (by decide), if_neg (by decide), if_neg (by decide), if_neg this, List.append_nil]
  | c :: t, acc, r, h => by
    by_cases hc : c = 0
    · subst hc
      have ih := cutText_esc t (acc ++ [0]) r (by simpa using h)
      have e : esc (0 :: t) ++ 0 :: 0 :: r = 0 :: 255 :: (esc t ++ 0 :: 0 :: r) := by simp [esc, esc1]
      rw [e]
      unfold cutText
      rw [if_neg (by decide), if_pos rfl, ih]
      simp
    · have ih := cutText_esc t (acc ++ [c]) r (by simpa using h)
      have e : esc (c :: t) ++ 0 :: 0 :: r = c :: (esc t ++ 0 :: 0 :: r) := by simp [esc, esc1, hc]
      rw [e]
      obtain ⟨d, x, hx⟩ : ∃ d x, esc t ++ 0 :: 0 :: r = d :: x := by
        cases h : esc t ++ 0 :: 0 :: r with
        | nil => simp at h
        | cons d x => exact ⟨d, x, rfl⟩
      rw [hx] at ih ⊢
      unfold cutText
      rw [if_pos hc, ih]
      simp
theorem cutText_ok : ∀ (s acc : List UInt8) (v : TVal) (r : List UInt8), cutText acc s = .ok v r → ∃ t, s = esc t ++ 0 :: 0 :: r ∧ v = ⟨2, 0, ⟨(acc ++ t).toArray⟩⟩ ∧ (acc ++ t).length ≤ 32
  | [], acc, v, r, h => by simp [cutText] at h
  | [_], acc, v, r, h => by simp [cutText] at h
  | c :: d :: x, acc, v, r, h => by
    unfold cutText at h
    by_cases hc : c = 0
    · rw [if_neg (by simpa using hc)] at h
      subst hc
      by_cases hd : d = 255
      · rw [if_pos hd] at h
        subst hd
        obtain ⟨t, rfl, rfl, hl⟩ := cutText_ok x (acc ++ [0]) v r h
        exact ⟨0 :: t, by simp [esc, esc1], by simp, by simpa using hl⟩
      · rw [if_neg hd] at h
        by_cases hd0 : d = 0
        · rw [if_neg (by simpa using hd0)] at h
          by_cases hl : 32 < acc.length
          · rw [if_pos hl] at h
            cases h
          · rw [if_neg hl] at h
            injection h with h1 h2
            subst h1
            subst h2
            subst hd0
            exact ⟨[], by simp [esc], by simp, by simp; omega⟩
        · rw [if_pos hd0] at h
          cases h
    · rw [if_pos hc] at h
      obtain ⟨t, e, rfl, hl⟩ := cutText_ok (d :: x) (acc ++ [c]) v r h
      exact ⟨c :: t, by simp [esc, esc1, hc, e], by simp, by simpa using hl⟩
theorem cutVal_key {v : TVal} (h : goodV v = true) (hn : InI64 v.n) (r : List UInt8) : cutVal (keyV v ++ r) = .ok v r := by
  rw [goodV_iff] at h
  obtain ⟨k, n, s⟩ := v
  simp only [TVal.t] at h
  simp only [InI64] at hn
  unfold keyV
  simp only [TVal.t]
  rcases h with ⟨rfl, rfl, hs⟩ | ⟨rfl, hs⟩ | ⟨rfl, rfl, hs⟩
  · have : s = ⟨#[]⟩ := bytes_ext (by rw [hs])
    subst this
    rfl
  · have : s = ⟨#[]⟩ := bytes_ext (by rw [hs])
    subst this
    have hm : (n + 9223372036854775808).toNat % 256 ^ 8 = (n + 9223372036854775808).toNat := Nat.mod_eq_of_lt (by omega)
    rw [if_pos rfl, List.cons_append, cutVal_cons, if_neg (by decide), if_pos rfl]
    unfold cutInt
    have hl := be_len 8 (n + 9223372036854775808).toNat
    rw [if_neg (by rw [List.length_append, hl]; omega), List.take_append_of_le_length (by omega), List.take_of_length_le (by omega), List.drop_append_of_le_length (by omega), List.drop_of_length_le (by omega), List.nil_append,
      numB_be, hm]
    congr 2
    omega
  · have h21 : ¬ ((2 : Int) = 1) := by decide
    rw [if_neg h21, if_pos rfl]
    simp only [List.cons_append, List.append_assoc, List.nil_append]
    rw [cutVal_cons, if_neg (by decide), if_neg (by decide), if_pos rfl, cutText_esc _ _ _ (by simpa using hs)]
    simp
theorem more_key (v : TVal) (r : List UInt8) : more (keyV v ++ r) = true := by
  obtain ⟨c, x, h, hc⟩ := keyV_pos v
  simp [h, more, hc]
theorem cutL_key : ∀ (l : List TVal) (j : Nat) (z : List UInt8), AllGood l → l.length ≤ j → more z = false → cutL j (keyL l ++ z) = .ok l z
  | [], j, z, _, _, hz => by cases j <;> simp [keyL, cutL, hz]
  | v :: l, 0, z, _, h, _ => by simp at h
  | v :: l, j + 1, z, hg, h, hz => by
    have hv := hg v (by simp)
    have ih := cutL_key l j z (fun x hx => hg x (by simp [hx])) (by simpa using h) hz
    simp only [keyL, List.append_assoc]
    unfold cutL
    rw [more_key, if_pos rfl, cutVal_key hv.1 hv.2]
    simp only [ih]

/-! ### what is read, put anew, is what was read -/
theorem cutVal_ok {s : List UInt8} {v : TVal} {r : List UInt8} (h : cutVal s = .ok v r) : s = keyV v ++ r ∧ goodV v = true ∧ InI64 v.n := by
  cases s with
  | nil => simp [cutVal] at h
  | cons c x =>
    rw [cutVal_cons] at h
    by_cases h1 : c = 1
    · rw [if_pos h1] at h
      injection h with h2 h3
      subst h1
      subst h2
      subst h3
      exact ⟨by simp [keyV], by rw [goodV_iff]; exact .inl ⟨rfl, rfl, rfl⟩, by simp [InI64]⟩
    · rw [if_neg h1] at h
      by_cases h2 : c = 2
      · rw [if_pos h2] at h
        subst h2
        unfold cutInt at h
        by_cases hl : x.length < 8
        · rw [if_pos hl] at h
          cases h
        · rw [if_neg hl] at h
          injection h with h3 h4
          subst h3
          subst h4
          have hl8 : (x.take 8).length = 8 := by simp; omega
          have hlt := numB_lt8 (l := x.take 8) (by omega)
          have hb := be_numB (x.take 8) 0
          rw [hl8] at hb
          refine ⟨?_, by rw [goodV_iff]; exact .inr (.inl ⟨rfl, rfl⟩), by simp only [InI64]; omega⟩
          unfold keyV
          simp only [if_true]
          rw [show ((numB 0 (x.take 8) : Int) - 9223372036854775808 + 9223372036854775808).toNat = numB 0 (x.take 8) from by omega, hb]
          simp
      · rw [if_neg h2] at h
        by_cases h3 : c = 3
        · rw [if_pos h3] at h
          subst h3
          obtain ⟨t, rfl, rfl, hl⟩ := cutText_ok _ _ _ _ h
          refine ⟨?_, by rw [goodV_iff]; exact .inr (.inr ⟨rfl, rfl, by simpa [TVal.t] using hl⟩), by simp [InI64]⟩
          have h21 : ¬ ((2 : Int) = 1) := by decide
          simp [keyV, TVal.t]
        · rw [if_neg h3] at h
          cases h
theorem cutL_ok : ∀ (j : Nat) (s : List UInt8) (l : List TVal) (z : List UInt8), cutL j s = .ok l z → s = keyL l ++ z ∧ AllGood l ∧ l.length ≤ j ∧ more z = false
  | 0, s, l, z, h => by
    unfold cutL at h
    by_cases hm : more s = true
    · rw [if_pos hm] at h
      cases h
    · rw [if_neg hm] at h
      injection h with h1 h2
      subst h1
      subst h2
      exact ⟨rfl, fun v hv => by simp at hv, by simp, by simpa using hm⟩
  | j + 1, s, l, z, h => by
    unfold cutL at h
    by_cases hm : more s = true
    · rw [if_pos hm] at h
      cases hv : cutVal s with
      | err e => rw [hv] at h; cases h
      | ok v r =>
        rw [hv] at h
        simp only at h
        cases hl : cutL j r with
        | err e => rw [hl] at h; cases h
        | ok l' z' =>
          rw [hl] at h
          simp only at h
          injection h with h1 h2
          subst h1
          subst h2
          obtain ⟨e1, g1, n1⟩ := cutVal_ok hv
          obtain ⟨e2, g2, n2, m2⟩ := cutL_ok j r l' z' hl
          refine ⟨by rw [e1, e2]; simp [keyL], fun x hx => ?_, by simpa using n2, m2⟩
          rcases List.mem_cons.1 hx with rfl | hx
          · exact ⟨g1, n1⟩
          · exact g2 x hx
    · rw [if_neg hm] at h
      injection h with h1 h2
      subst h1
      subst h2
      exact ⟨rfl, fun v hv => by simp at hv, by simp, by simpa using hm⟩
theorem cutText_err : ∀ (s acc : List UInt8) (e : Nat), cutText acc s = .err e → 0 < e ∧ e < 5
  | [], acc, e, h => by simp [cutText] at h; omega
  | [_], acc, e, h => by simp [cutText] at h; omega
  | c :: d :: x, acc, e, h => by
    unfold cutText at h
    split at h
    · exact cutText_err _ _ _ h
    · split at h
      · exact cutText_err _ _ _ h
      · split at h
        · injection h; omega
        · split at h
          · injection h; omega
          · cases h
theorem cutVal_err {s : List UInt8} {e : Nat} (h : cutVal s = .err e) : 0 < e ∧ e < 5 := by
  cases s with
  | nil => simp [cutVal] at h; omega
  | cons c x =>
    rw [cutVal_cons] at h
    split at h
    · cases h
    · split at h
      · unfold cutInt at h
        split at h
        · injection h; omega
        · cases h
      · split at h
        · exact cutText_err _ _ _ h
        · injection h; omega
theorem cutL_err : ∀ (j : Nat) (s : List UInt8) (e : Nat), cutL j s = .err e → 0 < e ∧ e < 5
  | 0, s, e, h => by
    unfold cutL at h
    split at h
    · injection h; omega
    · cases h
  | j + 1, s, e, h => by
    unfold cutL at h
    split at h
    · cases hv : cutVal s with
      | err e' =>
        rw [hv] at h
        injection h with h
        subst h
        exact cutVal_err hv
      | ok v r =>
        rw [hv] at h
        simp only at h
        cases hl : cutL j r with
        | err e' =>
          rw [hl] at h
          simp only at h
          injection h with h
          subst h
          exact cutL_err j r _ hl
        | ok l' z' => rw [hl] at h; cases h
    · cases h

/-! ### the next text -/
def nextT : List UInt8 → List UInt8
  | [] => []
  | c :: l => if nextT l = [] then (if c = 255 then [] else [c + 1]) else c :: nextT l
theorem nextT_ff {l : List UInt8} (h : ∀ x ∈ l, x = 255) : nextT l = [] := by
  induction l with
  | nil => rfl
  | cons c l ih =>
    have h1 := ih fun x hx => h x (by simp [hx])
    have h2 := h c (by simp)
    simp [nextT, h1, h2]
theorem nextT_app (p : List UInt8) {q : List UInt8} (h : nextT q = []) : nextT (p ++ q) = nextT p := by
  induction p with
  | nil => simpa [nextT] using h
  | cons c p ih => simp [nextT, ih]
theorem nextT_snoc (p : List UInt8) {c : UInt8} (h : c ≠ 255) : nextT (p ++ [c]) = p ++ [c + 1] := by
  induction p with
  | nil => simp [nextT, h]
  | cons d p ih => simp [nextT, ih]
theorem bytesLess_cmp : ∀ (a b : List UInt8), Op.bytesLess a b = decide (compareBytes a b = -1)
  | [], [] => rfl
  | [], _ :: _ => rfl
  | _ :: _, [] => by simp [Op.bytesLess, compareBytes]
  | x :: a, y :: b => by
    have ih := bytesLess_cmp a b
    rw [cmpB_cons]
    unfold Op.bytesLess
    by_cases h1 : x < y
    · simp [h1]
    · by_cases h2 : y < x
      · have : ¬ x = y := fun e => by subst e; exact UInt8.lt_irrefl _ h2
        simp [h1, h2, this]
      · have : x = y := UInt8.le_antisymm (UInt8.not_lt.1 h2) (UInt8.not_lt.1 h1)
        subst this
        simp [ih]
def begins : List UInt8 → List UInt8 → Bool
  | [], _ => true
  | _ :: _, [] => false
  | c :: s, d :: t => c == d && begins s t
theorem begins_take : ∀ (s t : List UInt8), begins s t = (decide (s.length ≤ t.length) && decide (t.take s.length = s))
  | [], t => by simp [begins]
  | c :: s, [] => by simp [begins]
  | c :: s, d :: t => by
    have ih := begins_take s t
    unfold begins
    rw [ih]
    by_cases hcd : c = d
    · subst hcd
      simp
    · have : ¬ d = c := fun e => hcd e.symm
      simp [hcd, this]
theorem next_last : ∀ (s t : List UInt8), nextT s = [] → begins s t = !Op.bytesLess t s
  | [], t, _ => by cases t <;> rfl
  | c :: s, [], _ => rfl
  | c :: s, d :: t, h => by
    unfold nextT at h
    by_cases hs : nextT s = []
    · rw [if_pos hs] at h
      by_cases hc : c = 255
      · have ih := next_last s t hs
        subst hc
        unfold begins Op.bytesLess
        rw [ih]
        by_cases hd : d = 255
        · subst hd
          simp
        · have h1 : d < 255 := by
            have : d.toNat ≠ 255 := fun e => hd (UInt8.toNat_inj.1 (by rw [e]; rfl))
            have := d.toNat_lt
            rw [UInt8.lt_iff_toNat_lt]
            show d.toNat < 255
            omega
          have h2 : ¬ (255 : UInt8) = d := fun e => hd e.symm
          simp [h1, h2]
      · rw [if_neg hc] at h
        cases h
    · rw [if_neg hs] at h
      cases h
theorem next_between : ∀ (s t : List UInt8), nextT s ≠ [] → begins s t = (!Op.bytesLess t s && Op.bytesLess t (nextT s))
  | [], t, h => by simp [nextT] at h
  | c :: s, [], h => rfl
  | c :: s, d :: t, h => by
    unfold nextT at h ⊢
    have tri : d < c ∨ d = c ∨ c < d := by
      rcases Nat.lt_trichotomy d.toNat c.toNat with h' | h' | h'
      · exact .inl (UInt8.lt_iff_toNat_lt.2 h')
      · exact .inr (.inl (UInt8.toNat_inj.1 h'))
      · exact .inr (.inr (UInt8.lt_iff_toNat_lt.2 h'))
    by_cases hs : nextT s = []
    · rw [if_pos hs] at h ⊢
      by_cases hc : c = 255
      · rw [if_pos hc] at h
        exact absurd rfl h
      · rw [if_neg hc]
        have ih := next_last s t hs
        have hc1 : (c + 1).toNat = c.toNat + 1 := by
          have : c.toNat ≠ 255 := fun e => hc (UInt8.toNat_inj.1 (by rw [e]; rfl))
          have := c.toNat_lt
          rw [UInt8.toNat_add]
          show (c.toNat + 1) % 256 = _
          omega
        unfold begins Op.bytesLess
        rw [ih]
        rcases tri with h' | h' | h'
        · have hne : ¬ c = d := fun e => by subst e; exact UInt8.lt_irrefl _ h'
          simp [h', hne]
        · subst h'
          have h1 : d < d + 1 := by rw [UInt8.lt_iff_toNat_lt, hc1]; omega
          simp [h1]
        · have hne : ¬ c = d := fun e => by subst e; exact UInt8.lt_irrefl _ h'
          have h1 : ¬ d < c + 1 := by
            rw [UInt8.lt_iff_toNat_lt] at h' ⊢
            rw [hc1]
            omega
          simp [h1, hne, Op.bytesLess]
    · rw [if_neg hs] at h ⊢
      have ih := next_between s t hs
      unfold begins Op.bytesLess
      rw [ih]
      rcases tri with h' | h' | h'
      · have hne : ¬ c = d := fun e => by subst e; exact UInt8.lt_irrefl _ h'
        simp [h', hne]
      · subst h'
        simp
      · have hne : ¬ c = d := fun e => by subst e; exact UInt8.lt_irrefl _ h'
        have h1 : ¬ d < c := UInt8.not_lt.2 (UInt8.le_of_lt h')
        have e1 : (c == d) = false := beq_eq_false_iff_ne.2 hne
        have e2 : (d == c) = false := beq_eq_false_iff_ne.2 (fun e => hne e.symm)
        simp [h1, e1, e2]

theorem keyL_back {l : List TVal} (hg : AllGood l) (h4 : l.length ≤ 4) : cutL 4 (keyL l) = .ok l [] := by
  have := cutL_key l 4 [] hg h4 rfl
  rwa [List.append_nil] at this
theorem keyT_eq {l : List TVal} (h : rowErr l = 0) : keyT l = keyL l := if_pos h

theorem eq_toList (a b : ByteArray) : (a.toList == b.toList) = decide (a.data.toList = b.data.toList) := by
  rw [Lib.toList_data, Lib.toList_data]
  by_cases h : a.data.toList = b.data.toList
  · simp [h]
  · rw [decide_eq_false h]
    exact beq_eq_false_iff_ne.2 h
theorem allGood_of {l : List TVal} (h : rowErr l = 0) (hi : ∀ u ∈ l, InI64 u.n) : AllGood l := fun v hv => ⟨(rowErr_ok.1 h).2 v hv, hi v hv⟩
theorem cmpT_row {l m : List TVal} (hl : rowErr l = 0) (hm : rowErr m = 0) : cmpT l m = cmpRow l m := by unfold cmpT; rw [if_neg (by omega)]
theorem cmpT_bad {l m : List TVal} (h : rowErr l ≠ 0 ∨ rowErr m ≠ 0) : cmpT l m = 0 := by unfold cmpT; rw [if_pos h]

end Go.Proofs.Ytdfhnjocpfjagaa

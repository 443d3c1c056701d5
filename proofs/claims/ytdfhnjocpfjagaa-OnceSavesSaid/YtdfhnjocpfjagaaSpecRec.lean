/-
  Layer 4 as plain mathematics: indexes, records, what is shown, entries, areas. Nothing of the translated program is named here.
-/
import Derived.Test.YtdfhnjocpfjagaaSpecCut
namespace Go.Proofs.Ytdfhnjocpfjagaa
open Go.Lib (compareBytes)

def isIdB (id : Int) : Bool := decide (1 ≤ id) && decide (id ≤ 6)
/-- numbers of fields, none of them marked ahead, and unlike ones -/
def okF (b0 b1 b2 b3 : Bool) : List Int → Bool
  | [] => true
  | n :: l =>
    if n = 0 then (if b0 then false else okF true b1 b2 b3 l)
    else if n = 1 then (if b1 then false else okF b0 true b2 b3 l)
    else if n = 2 then (if b2 then false else okF b0 b1 true b3 l)
    else if n = 3 then (if b3 then false else okF b0 b1 b2 true l)
    else false
def okFs (l : List Int) : Bool := okF false false false false l
theorem okF_out {b0 b1 b2 b3 : Bool} {n : Int} {l : List Int} (h : n < 0 ∨ 4 ≤ n) : okF b0 b1 b2 b3 (n :: l) = false := by
  unfold okF
  rw [if_neg (by omega), if_neg (by omega), if_neg (by omega), if_neg (by omega)]

/-- 0, or the error of an index -/
def idxErr (id : Int) (fs : List Int) : Nat :=
  if isIdB id = false ∨ fs.length = 0 then 1 else if 2 < fs.length then 4 else if okFs fs then 0 else 1
def recErr (r : List TVal) : Nat := if r.length = 0 then 1 else rowErr r
def showL (r : List TVal) : List Int → Option (List TVal)
  | [] => some []
  | n :: l => match r[n.toNat]? with
    | none => none
    | some v => if v.k = 0 then none else (showL r l).map (v :: ·)
/-- what a record shows an index, if it shows it something -/
def showT (id : Int) (fs : List Int) (r : List TVal) : Option (List TVal) := if idxErr id fs = 0 ∧ recErr r = 0 then showL r fs else none
def whenI (b : Bool) (e : Int) : Int := if b then e else 0
def firstI : List Int → Int
  | [] => 0
  | e :: l => if e = 0 then firstI l else e
def keyOk (s : List UInt8) : Bool := decide (1 ≤ s.length) && decide (s.length ≤ 16)
def notNull (v : TVal) : Bool := !(v.k == 0)
def entryErr (id : Int) (l : List TVal) (key : List UInt8) : Nat :=
  if isIdB id = false ∨ l.length = 0 then 1 else if 2 < l.length then 4 else if rowErr l ≠ 0 then rowErr l else if l.all notNull && keyOk key then 0 else 1
def idT (id : Int) : List UInt8 := [0, UInt8.ofNat id.toNat]
def entryT (id : Int) (l : List TVal) (key : List UInt8) : List UInt8 := if entryErr id l key = 0 then idT id ++ keyL l ++ 0 :: key else []
def areaErr (id : Int) (low high : List TVal) : Nat := if isIdB id = false then 1 else if rowErr low ≠ 0 then rowErr low else rowErr high
def areaLo (id : Int) (low high : List TVal) : List UInt8 := if areaErr id low high = 0 then idT id ++ keyL low else []
def areaHi (id : Int) (low high : List TVal) : List UInt8 := if areaErr id low high = 0 then nextT (idT id ++ keyL high) else []
def liesB (l low high : List TVal) : Bool :=
  decide (rowErr l = 0 ∧ rowErr low = 0 ∧ rowErr high = 0) && (decide (0 ≤ cmpRow l low) && decide (cmpRow (l.take high.length) high ≤ 0))
def withinB (s lo hi : List UInt8) : Bool := !Op.bytesLess s lo && (decide (hi = []) || Op.bytesLess s hi)

/-! ### what is shown, number by number -/
theorem showL_app (r : List TVal) (b : List Int) : ∀ (a : List Int), showL r (a ++ b) = (showL r a).bind fun m => (showL r b).map (m ++ ·)
  | [] => by
    simp only [List.nil_append, showL, Option.bind_some]
    cases showL r b <;> rfl
  | x :: a => by
    have ih := showL_app r b a
    simp only [List.cons_append, showL]
    cases r[x.toNat]? with
    | none => rfl
    | some u =>
      simp only
      by_cases hu : u.k = 0
      · simp [hu]
      · simp only [hu, if_false, ih]
        cases showL r a with
        | none => rfl
        | some m => cases showL r b <;> rfl
theorem showL_none_take (r : List TVal) (l : List Int) (k : Nat) (h : showL r (l.take k) = none) : showL r l = none := by
  conv => lhs; rw [← List.take_append_drop k l]
  rw [showL_app, h]
  rfl
theorem showL_take (r : List TVal) {l : List Int} {k : Nat} {n : Int} (h : l[k]? = some n) {m : List TVal} (hm : showL r (l.take k) = some m) :
    showL r (l.take (k + 1)) = (match r[n.toNat]? with | none => none | some v => if v.k = 0 then none else some (m ++ [v])) := by
  rw [List.take_add_one, h, showL_app, hm]
  simp only [Option.toList_some, showL, Option.bind_some]
  cases r[n.toNat]? with
  | none => rfl
  | some v =>
    simp only
    by_cases hv : v.k = 0 <;> simp [hv]
theorem showL_len {r : List TVal} : ∀ {l : List Int} {m : List TVal}, showL r l = some m → m.length = l.length
  | [], m, h => by
    simp [showL] at h
    simp [← h]
  | x :: l, m, h => by
    unfold showL at h
    cases hx : r[x.toNat]? with
    | none => rw [hx] at h; cases h
    | some u =>
      rw [hx] at h
      simp only at h
      by_cases hu : u.k = 0
      · simp [hu] at h
      · simp only [hu, if_false] at h
        cases hl : showL r l with
        | none => rw [hl] at h; cases h
        | some m' =>
          rw [hl] at h
          simp only [Option.map_some, Option.some.injEq] at h
          subst h
          simp [showL_len hl]

/-! ### where an entry stands -/
theorem keyC_cmp : ∀ (l m : List TVal) (x y : List UInt8), AllGood l → AllGood m → compareBytes (keyL l ++ 0 :: x) (keyL m ++ 0 :: y) = if cmpRow l m = 0 then compareBytes x y else cmpRow l m
  | [], [], x, y, _, _ => by simp [keyL, cmpRow, cmpB_cons]
  | [], w :: m, x, y, _, _ => by
    obtain ⟨c, r, h, hc⟩ := keyV_pos w
    have := u8_pos hc
    simp [keyL, h, cmpB_cons, cmpRow, this]
  | v :: l, [], x, y, _, _ => by
    obtain ⟨c, r, h, hc⟩ := keyV_pos v
    have h1 := u8_pos hc
    have h2 : ¬ c < 0 := UInt8.not_lt.2 (UInt8.le_of_lt h1)
    simp [keyL, h, cmpB_cons, cmpRow, h1, h2]
  | v :: l, w :: m, x, y, hl, hm => by
    have ih := keyC_cmp l m x y (fun x hx => hl x (by simp [hx])) (fun x hx => hm x (by simp [hx]))
    have h1 := hl v (by simp)
    have h2 := hm w (by simp)
    unfold cmpRow keyL
    by_cases h : cmpV v w = 0
    · rw [if_pos h, ← cmpV_zero h, List.append_assoc, List.append_assoc, cmpB_app, ih]
    · rw [if_neg h, if_neg h, List.append_assoc, List.append_assoc]
      exact keyV_cmp h1.1 h2.1 h1.2 h2.2 h _ _
theorem keyA_cmp : ∀ (l m : List TVal) (x : List UInt8), AllGood l → AllGood m → compareBytes (keyL l ++ 0 :: x) (keyL m) = if cmpRow l m = 0 then 1 else cmpRow l m
  | [], [], x, _, _ => by simp [keyL, cmpRow, compareBytes]
  | [], w :: m, x, _, _ => by
    obtain ⟨c, r, h, hc⟩ := keyV_pos w
    have := u8_pos hc
    simp [keyL, h, cmpB_cons, cmpRow, this]
  | v :: l, [], x, _, _ => by
    obtain ⟨c, r, h, hc⟩ := keyV_pos v
    simp [keyL, h, compareBytes, cmpRow]
  | v :: l, w :: m, x, hl, hm => by
    have ih := keyA_cmp l m x (fun x hx => hl x (by simp [hx])) (fun x hx => hm x (by simp [hx]))
    have h1 := hl v (by simp)
    have h2 := hm w (by simp)
    unfold cmpRow keyL
    by_cases h : cmpV v w = 0
    · rw [if_pos h, ← cmpV_zero h, List.append_assoc, cmpB_app, ih]
    · rw [if_neg h, if_neg h, List.append_assoc]
      exact keyV_cmp h1.1 h2.1 h1.2 h2.2 h _ _
theorem begins_app (p a b : List UInt8) : begins (p ++ a) (p ++ b) = begins a b := by
  induction p with
  | nil => rfl
  | cons c p ih => simp [begins, ih]
theorem less_app (p a b : List UInt8) : Op.bytesLess (p ++ a) (p ++ b) = Op.bytesLess a b := by rw [bytesLess_cmp, bytesLess_cmp, cmpB_app]
theorem begins_ex {s t : List UInt8} (h : begins s t = true) : ∃ z, t = s ++ z := by
  rw [begins_take] at h
  simp only [Bool.and_eq_true, decide_eq_true_eq] at h
  exact ⟨t.drop s.length, by conv => lhs; rw [← List.take_append_drop s.length t, h.2]⟩
theorem keyB_cmp : ∀ (l m : List TVal) (x : List UInt8), AllGood l → AllGood m → (Op.bytesLess (keyL l ++ 0 :: x) (keyL m) || begins (keyL m) (keyL l ++ 0 :: x)) = decide (cmpRow (l.take m.length) m ≤ 0)
  | l, [], x, _, _ => by simp [keyL, cmpRow, begins]
  | [], w :: m, x, _, _ => by
    obtain ⟨c, r, h, hc⟩ := keyV_pos w
    have := u8_pos hc
    simp [keyL, h, cmpRow, bytesLess_cmp, cmpB_cons, this]
  | v :: l, w :: m, x, hl, hm => by
    have ih := keyB_cmp l m x (fun x hx => hl x (by simp [hx])) (fun x hx => hm x (by simp [hx]))
    have h1 := hl v (by simp)
    have h2 := hm w (by simp)
    rw [List.length_cons, List.take_succ_cons]
    unfold cmpRow keyL
    by_cases h : cmpV v w = 0
    · rw [if_pos h, ← cmpV_zero h, List.append_assoc, less_app, begins_app, ih]
    · rw [if_neg h, List.append_assoc, bytesLess_cmp, keyV_cmp h1.1 h2.1 h1.2 h2.2 h]
      have hb : begins (keyV w ++ keyL m) (keyV v ++ (keyL l ++ 0 :: x)) = false := by
        rw [← Bool.not_eq_true]
        intro hb
        obtain ⟨z, hz⟩ := begins_ex hb
        have h3 := keyV_cmp h1.1 h2.1 h1.2 h2.2 h (keyL l ++ 0 :: x) (keyL m ++ z)
        rw [hz, List.append_assoc, cmpB_self] at h3
        exact h h3.symm
      rw [hb, Bool.or_false]
      rcases cmpV_cases v w with h' | h' | h'
      · simp [h']
      · exact absurd h' h
      · simp [h']
theorem less_next : ∀ (s t : List UInt8), nextT t ≠ [] → Op.bytesLess s (nextT t) = (Op.bytesLess s t || begins t s) := by
  intro s t h
  have hn := next_between t s h
  cases hl : Op.bytesLess s t with
  | false =>
    rw [hl] at hn
    simp at hn
    simp [hn]
  | true =>
    simp only [Bool.true_or]
    clear hn
    induction t generalizing s with
    | nil => exact absurd rfl h
    | cons c t ih =>
      unfold nextT at h ⊢
      by_cases hs : nextT t = []
      · rw [if_pos hs] at h ⊢
        by_cases hc : c = 255
        · rw [if_pos hc] at h
          exact absurd rfl h
        · rw [if_neg hc]
          have hc1 : (c + 1).toNat = c.toNat + 1 := by
            have : c.toNat ≠ 255 := fun e => hc (UInt8.toNat_inj.1 (by rw [e]; rfl))
            have := c.toNat_lt
            rw [UInt8.toNat_add]
            show (c.toNat + 1) % 256 = _
            omega
          cases s with
          | nil => rfl
          | cons d s =>
            unfold Op.bytesLess at hl ⊢
            have hd : d ≤ c := by
              by_cases h1 : d < c
              · exact UInt8.le_of_lt h1
              · by_cases h2 : c = d
                · rw [h2]; exact UInt8.le_refl _
                · rcases Nat.lt_trichotomy c.toNat d.toNat with h3 | h3 | h3
                  · have : d ≠ c := fun e => h2 e.symm
                    simp [h1, this] at hl
                  · exact absurd (UInt8.toNat_inj.1 h3) h2
                  · exact absurd (UInt8.lt_iff_toNat_lt.2 h3) h1
            have : d < c + 1 := by
              rw [UInt8.lt_iff_toNat_lt, hc1]
              rw [UInt8.le_iff_toNat_le] at hd
              omega
            simp [this]
      · rw [if_neg hs]
        cases s with
        | nil => rfl
        | cons d s =>
          unfold Op.bytesLess at hl ⊢
          by_cases h1 : d < c
          · simp [h1]
          · by_cases h2 : d = c
            · subst h2
              simp at hl
              simp [ih s hs hl]
            · simp [h1, h2] at hl

theorem idB_nat {id : Int} (h : isIdB id = true) : ∃ k : Nat, id = (k : Int) ∧ 1 ≤ k ∧ k ≤ 6 := by
  unfold isIdB at h
  simp at h
  exact ⟨id.toNat, by omega, by omega, by omega⟩
theorem nextT_id (k : Nat) (l : List UInt8) : nextT (idT (k : Int) ++ l) ≠ [] := by
  intro e
  unfold idT at e
  simp only [List.cons_append, List.nil_append, Int.toNat_natCast] at e
  unfold nextT at e
  split at e
  · simp at e
  · cases e

/-- an entry stands in an area's range just if it is of that index, and what is shown lies in the area -/
theorem entry_within {id other : Int} {l low high : List TVal} {key : List UInt8} (he : entryErr other l key = 0) (hf : areaErr id low high = 0) (hl : ∀ u ∈ l, InI64 u.n) (hlo : ∀ u ∈ low, InI64 u.n) (hhi : ∀ u ∈ high, InI64 u.n) :
    withinB (entryT other l key) (areaLo id low high) (areaHi id low high) = (decide (id = other) && liesB l low high) := by
  have eE : entryT other l key = idT other ++ keyL l ++ 0 :: key := by unfold entryT; rw [if_pos he]
  have eL : areaLo id low high = idT id ++ keyL low := by unfold areaLo; rw [if_pos hf]
  have eH : areaHi id low high = nextT (idT id ++ keyL high) := by unfold areaHi; rw [if_pos hf]
  have hid : isIdB other = true ∧ rowErr l = 0 := by
    unfold entryErr at he
    split at he
    · omega
    · next h1 =>
      split at he
      · omega
      · split at he
        · next h2 => exact absurd he h2
        · next h2 =>
          refine ⟨?_, by omega⟩
          cases h : isIdB other with
          | true => rfl
          | false => exact absurd (.inl h) h1
  have hid2 : isIdB id = true ∧ rowErr low = 0 ∧ rowErr high = 0 := by
    unfold areaErr at hf
    split at hf
    · omega
    · next h1 =>
      split at hf
      · next h2 => exact absurd hf h2
      · next h2 => exact ⟨by simpa using h1, by omega, hf⟩
  obtain ⟨k, rfl, hk1, hk6⟩ := idB_nat hid.1
  obtain ⟨j, rfl, hj1, hj6⟩ := idB_nat hid2.1
  have hne := nextT_id j (keyL high)
  have gl := allGood_of hid.2 hl
  have glo := allGood_of hid2.2.1 hlo
  have ghi := allGood_of hid2.2.2 hhi
  unfold withinB
  rw [eE, eL, eH, decide_eq_false hne, Bool.false_or, less_next _ _ hne]
  unfold liesB
  rw [show decide (rowErr l = 0 ∧ rowErr low = 0 ∧ rowErr high = 0) = true from decide_eq_true ⟨hid.2, hid2.2⟩, Bool.true_and]
  by_cases hjk : j = k
  · subst hjk
    rw [List.append_assoc, less_app, less_app, begins_app, keyB_cmp l high key gl ghi, bytesLess_cmp, keyA_cmp l low key gl glo]
    simp only [decide_true, Bool.true_and]
    congr 1
    rcases cmpRow_cases l low with h | h | h <;> simp [h]
  · have e : (decide ((j : Int) = (k : Int))) = false := decide_eq_false (by omega)
    rw [e, Bool.false_and]
    have hjk' : UInt8.ofNat j ≠ UInt8.ofNat k := fun e => hjk (by
      have := congrArg UInt8.toNat e
      rwa [u8_ofNat_toNat (by omega), u8_ofNat_toNat (by omega)] at this)
    have hb : begins (idT (j : Int) ++ keyL high) (idT (k : Int) ++ keyL l ++ 0 :: key) = false := by
      rw [← Bool.not_eq_true]
      intro hb
      obtain ⟨z, hz⟩ := begins_ex hb
      simp [idT] at hz
      have := hz.1
      exact hjk' this.symm
    rw [hb, Bool.or_false, bytesLess_cmp, bytesLess_cmp]
    simp only [idT, Int.toNat_natCast, List.cons_append, List.nil_append, cmpB_cons, UInt8.lt_irrefl, if_false, u8_lt (show k < 256 by omega) (show j < 256 by omega), u8_lt (show j < 256 by omega) (show k < 256 by omega)]
    rcases Nat.lt_or_ge k j with h | h
    · simp [h]
    · have h1 : ¬ k < j := by omega
      have h2 : j < k := by omega
      simp [h1, h2]

theorem entryErr_ok {id : Int} {l : List TVal} {key : List UInt8} (he : entryErr id l key = 0) : isIdB id = true ∧ rowErr l = 0 := by
  unfold entryErr at he
  split at he
  · omega
  · next h1 =>
    split at he
    · omega
    · split at he
      · next h2 => exact absurd he h2
      · next h2 =>
        refine ⟨?_, by omega⟩
        cases h : isIdB id with
        | true => rfl
        | false => exact absurd (.inl h) h1
/-- how two entries stand -/
theorem entry_cmp {i j : Int} {a b : List TVal} {x y : List UInt8} (he : entryErr i a x = 0) (hf : entryErr j b y = 0) (ha : ∀ u ∈ a, InI64 u.n) (hb : ∀ u ∈ b, InI64 u.n) :
    compareBytes (entryT i a x) (entryT j b y) = if i < j then -1 else if j < i then 1 else if cmpRow a b = 0 then compareBytes x y else cmpRow a b := by
  have e1 : entryT i a x = idT i ++ keyL a ++ 0 :: x := by unfold entryT; rw [if_pos he]
  have e2 : entryT j b y = idT j ++ keyL b ++ 0 :: y := by unfold entryT; rw [if_pos hf]
  obtain ⟨hi, ra⟩ := entryErr_ok he
  obtain ⟨hj, rb⟩ := entryErr_ok hf
  obtain ⟨k, rfl, hk1, hk6⟩ := idB_nat hi
  obtain ⟨m, rfl, hm1, hm6⟩ := idB_nat hj
  rw [e1, e2]
  simp only [idT, Int.toNat_natCast, List.cons_append, List.nil_append, cmpB_cons, UInt8.lt_irrefl, if_false, u8_lt (show k < 256 by omega) (show m < 256 by omega), u8_lt (show m < 256 by omega) (show k < 256 by omega)]
  rw [keyC_cmp a b x y (allGood_of ra ha) (allGood_of rb hb)]
  simp only [Int.ofNat_lt]

end Go.Proofs.Ytdfhnjocpfjagaa

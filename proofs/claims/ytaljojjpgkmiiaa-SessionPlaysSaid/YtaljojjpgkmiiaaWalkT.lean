/- pack.GetText and pack.GetTexts give what the readers of the plain text (SpecPack) give. Condition: the bytes are in memory, a million at most for lists. -/
import Derived.Test.YtaljojjpgkmiiaaWalkD
import Derived.Test.YtaljojjpgkmiiaaPakE
namespace Go.Proofs.Ytaljojjpgkmiiaa
open Go.RowKit
open Go.Lib (strCells)

theorem getText_bound {l : List UInt8} {p most : Int} (h : (getText l p most).2.2 = 0) : 0 ≤ p ∧ p < (getText l p most).2.1 ∧ (getText l p most).2.1 ≤ l.length ∧ (getText l p most).1.length ≤ most := by
  unfold getText at h ⊢
  simp only at h ⊢
  split at h
  · next h1 => exact absurd h h1
  · next h1 =>
    rw [if_neg h1]
    have hb := getNum_bound (l := l) (p := p) (by omega)
    split at h
    · simp at h
    · next h2 =>
      rw [if_neg h2]
      split at h
      · simp at h
      · next h3 =>
        rw [if_neg h3]
        simp only [List.length_take, List.length_drop]
        omega
theorem getText_err {l : List UInt8} {p most : Int} (h : (getText l p most).2.2 ≠ 0) : getText l p most = ([], 0, (getText l p most).2.2) := by
  unfold getText at h ⊢
  simp only at h ⊢
  split
  · rfl
  · next h1 =>
    rw [if_neg h1] at h
    split
    · rfl
    · next h2 =>
      rw [if_neg h2] at h
      split
      · rfl
      · next h3 => rw [if_neg h3] at h; simp at h
theorem getText_e_lt (l : List UInt8) (p most : Int) : (getText l p most).2.2 ≤ 4 := by
  have := getNum_e_lt l p
  unfold getText
  simp only
  split
  · simp only; omega
  · split
    · simp
    · split <;> simp

def joinTexts (pre : List (List UInt8)) (r : List (List UInt8) × Nat × Nat) : List (List UInt8) × Nat × Nat :=
  if r.2.2 ≠ 0 then ([], 0, r.2.2) else (pre ++ r.1, r.2.1, 0)
theorem getTextsFrom_err (l : List UInt8) (most : Int) : ∀ (m p : Nat), (getTextsFrom l most m p).2.2 ≠ 0 → getTextsFrom l most m p = ([], 0, (getTextsFrom l most m p).2.2)
  | 0, p, h => by simp [getTextsFrom] at h
  | m + 1, p, h => by
    unfold getTextsFrom at h ⊢
    simp only at h ⊢
    split
    · rfl
    · next h1 =>
      rw [if_neg h1] at h
      split
      · rfl
      · next h2 => rw [if_neg h2] at h; simp at h
theorem texts_start (l : List UInt8) (most : Int) (m p : Nat) : getTextsFrom l most m p = joinTexts [] (getTextsFrom l most m p) := by
  unfold joinTexts
  split
  · next h => exact getTextsFrom_err l most m p h
  · next h =>
    generalize getTextsFrom l most m p = r at h ⊢
    obtain ⟨a, b, c⟩ := r
    simp_all
theorem texts_bad {l : List UInt8} {most : Int} {m p e : Nat} {pre : List (List UInt8)} (h : (getText l p most).2.2 = e) (he : e ≠ 0) : joinTexts pre (getTextsFrom l most (m + 1) p) = ([], 0, e) := by
  subst h
  simp [getTextsFrom, joinTexts, he]
theorem texts_step {l s : List UInt8} {most : Int} {m p q : Nat} {pre : List (List UInt8)} (h : getText l p most = (s, q, 0)) : joinTexts pre (getTextsFrom l most (m + 1) p) = joinTexts (pre ++ [s]) (getTextsFrom l most m q) := by
  simp only [getTextsFrom, h, joinTexts]
  by_cases e : (getTextsFrom l most m q).2.2 = 0
  · simp [e]
  · simp [e]
theorem texts_done (l : List UInt8) (most : Int) (p : Nat) (pre : List (List UInt8)) : joinTexts pre (getTextsFrom l most 0 p) = (pre, p, 0) := by simp [getTextsFrom, joinTexts]

theorem getTextsFrom_bound (l : List UInt8) (most : Int) : ∀ (m p : Nat), p ≤ l.length → (getTextsFrom l most m p).2.2 = 0 → p + (getTextsFrom l most m p).1.length ≤ (getTextsFrom l most m p).2.1 ∧ (getTextsFrom l most m p).2.1 ≤ l.length
  | 0, p, hp, _ => by simp [getTextsFrom, hp]
  | m + 1, p, hp, h => by
    unfold getTextsFrom at h ⊢
    simp only at h ⊢
    split at h
    · next h1 => exact absurd h h1
    · next h1 =>
      rw [if_neg h1]
      have hb := getText_bound (l := l) (p := p) (most := most) (by omega)
      split at h
      · next h2 => exact absurd h h2
      · next h2 =>
        rw [if_neg h2]
        have := getTextsFrom_bound l most m (getText l p most).2.1 (by omega) (by omega)
        simp only [List.length_cons]
        omega
theorem getTexts_bound {l : List UInt8} {p count most : Int} (h : (getTexts l p count most).2.2 = 0) : 0 ≤ p ∧ p < (getTexts l p count most).2.1 ∧ (getTexts l p count most).2.1 ≤ l.length ∧ (getTexts l p count most).1.length ≤ l.length := by
  unfold getTexts at h ⊢
  simp only at h ⊢
  split at h
  · next h1 => exact absurd h h1
  · next h1 =>
    rw [if_neg h1]
    have hb := getNum_bound (l := l) (p := p) (by omega)
    split at h
    · simp at h
    · next h2 =>
      rw [if_neg h2]
      have := getTextsFrom_bound l most (getNum l p).1 (getNum l p).2.1 (by omega) h
      omega
theorem getTexts_err {l : List UInt8} {p count most : Int} (h : (getTexts l p count most).2.2 ≠ 0) : getTexts l p count most = ([], 0, (getTexts l p count most).2.2) := by
  unfold getTexts at h ⊢
  simp only at h ⊢
  split
  · rfl
  · next h1 =>
    rw [if_neg h1] at h
    split
    · rfl
    · next h2 =>
      rw [if_neg h2] at h
      exact getTextsFrom_err l most _ _ h
theorem getTexts_len (l : List UInt8) (p count most : Int) : (getTexts l p count most).1.length ≤ l.length := by
  by_cases h : (getTexts l p count most).2.2 = 0
  · exact (getTexts_bound h).2.2.2
  · rw [getTexts_err h]; simp

/-- the texts as values -/
def strVals (L : List (List UInt8)) : List Value := L.map fun s => .string ⟨s.toArray⟩
theorem strVals_one (L : List (List UInt8)) : ∀ u ∈ strVals L, u.oneCell' = true := by
  intro u hu
  simp only [strVals, List.mem_map] at hu
  obtain ⟨_, _, rfl⟩ := hu
  rfl
theorem str_elem : Elem Try.prog 9 16 (.string ⟨#[]⟩) := ⟨by kernel_rfl, rfl⟩

/-- GetTexts' answer: the list is a row of the call's own. -/
def GivesTexts (B : Nat) (r : List (List UInt8) × Nat × Nat) (w : World) (e : Ending) (w' : World) : Prop :=
  ∃ v, e = .returned (.tuple #[v, .int .i64 (r.2.1 : Int), .int .i64 (r.2.2 : Int)]) ∧ w'.ownsRow B 9 1 v r.1.length (strVals r.1) ∧ Below B w w'
theorem givesTexts_err {B : Nat} {w w' : World} {r : List (List UInt8) × Nat × Nat} {e : Nat} (h : r = ([], 0, e)) (hb : Below B w w') :
    GivesTexts B r w (.returned (.tuple #[.slice none 0 0, .int .i64 0, .int .i64 (e : Int)])) w' := by
  subst h
  exact ⟨_, rfl, World.ownsRow_nil _ _ _ _, hb⟩

set_option maxHeartbeats 400000 in
set_option maxRecDepth 100000 in
/-- GetTexts -/
theorem getTexts_any (A : Option Addr) (n c C : Nat) (p count most : Int) (l : List UInt8) (w : World) (h : HasBytes w C A n l) (hC : C ≤ w.heap.size) (hn : n ≤ 1000000) (hnc : n ≤ c) :
    Calls Try.prog 68 #[.slice A n c, .int .i64 p, .int .i64 count, .int .i64 most] w (GivesTexts w.heap.size (getTexts l p count most) w) := by
  have hl := h.len
  obtain ⟨r, hr⟩ : ∃ r, getNum l p = r := ⟨_, rfl⟩
  obtain ⟨x, u, e⟩ := r
  have hcall := getNum_any A n c C p l w h (by unfold maxLen; omega) hnc
  rw [hr] at hcall
  have hT : getTexts l p count most = if e ≠ 0 then ([], 0, e) else if count < x then ([], 0, 4) else getTextsFrom l most x u := by
    simp only [getTexts, hr]
  have hcall2 := Lib.hid hcall
  clear hcall
  by_cases he : e = 0
  · subst he
    have hbd := getNum_bound (l := l) (p := p) (by rw [hr])
    rw [hr] at hbd
    simp only [hl] at hbd
    rw [if_neg (by omega)] at hT
    have Hl := Lib.hid hl
    clear hl hr
    by_cases hm : count < x
    · rw [if_pos hm] at hT
      have HT := Lib.hid hT
      clear hT
      go_enter Try.func68, Try.ntmps68
      go_wp2_with fail
      refine hcall2.out.mono ?_
      rintro e w' ⟨rfl, rfl⟩
      go_wp2
      go_ret3
      exact givesTexts_err HT.out (Below.refl _ _)
    · rw [if_neg hm] at hT
      have HT := Lib.hid hT
      clear hT
      go_enter Try.func68, Try.ntmps68
      go_wp2_with fail
      refine hcall2.out.mono ?_
      rintro e w' ⟨rfl, rfl⟩
      go_wp2
      go_loopw [8, 9, 27] (fun v nx i wr => ∃ (k q : Nat) (pre : List (List UInt8)), k ≤ x ∧ k ≤ q ∧ q ≤ n ∧ i = .int .i64 (k : Int) ∧ nx = .int .i64 (q : Int) ∧ pre.length = k ∧ getTextsFrom l most x u = joinTexts pre (getTextsFrom l most (x - k) q) ∧ wr.ownsRow w.heap.size 9 1 v k (strVals pre) ∧ Below w.heap.size w wr) (fun _ _ i _ => x - (intOf i).toNat)
      case atStart => exact ⟨0, u, [], by omega, by omega, by omega, rfl, rfl, rfl, texts_start _ _ _ _, World.ownsRow_nil _ _ _ _, Below.refl _ _⟩
      case round =>
        obtain ⟨k, q, pre, hk, hkq, hq, rfl, rfl, hpre, hj, hown', hb⟩ := hrel
        have Hj := Lib.hid hj
        have Hp := Lib.hid hpre
        clear hj hpre
        have hBr : w.heap.size ≤ wr.heap.size := hb.size
        by_cases hlt : k < x
        · obtain ⟨g, hg⟩ : ∃ g, getText l q most = g := ⟨_, rfl⟩
          obtain ⟨s, q', e⟩ := g
          have hcl := getText_any A n c C q most l wr (h.belowOf hb hC) (by omega) hnc
          rw [hg] at hcl
          have hcl2 := Lib.hid hcl
          clear hcl
          obtain ⟨m', hm'⟩ : ∃ m', x - k = m' + 1 := ⟨x - k - 1, by omega⟩
          by_cases he : e = 0
          · subst he
            have hbt := getText_bound (l := l) (p := q) (most := most) (by rw [hg])
            rw [hg] at hbt
            simp only [Hl.out] at hbt
            have Hst := Lib.hid (texts_step (m := m') (pre := pre) hg)
            have Hm := Lib.hid hm'
            clear hm' hg
            go_wp2_with fail
            refine hcl2.out.mono ?_
            rintro e w' ⟨rfl, rfl⟩
            go_wp2_with (at_builtin; refine wpList_append_has rfl (.tmp 40) (.tmp 42) _ rfl 9 str_elem Try.underlying27 rfl (hown'.alloc _) rfl (Has.one wr _ _ _ rfl) (one_string _) (by simp only [maxLen]; omega) (by omega) (le_alloc hBr _) ?_; intro v' w1 hown1 hg1 _)
            have hb1 : Below w.heap.size w w1 := below_own (hb.alloc hBr _) (hown'.alloc _) hg1 (le_alloc hBr _)
            go_roundw
            case rel =>
              refine ⟨k + 1, q', pre ++ [s], by omega, by omega, by omega, by go_num, rfl, by rw [List.length_append, Hp.out]; rfl, ?_, ?_, hb1⟩
              · rw [Hj.out, Hm.out, Hst.out]
                congr 2
                have := Hm.out
                omega
              · rw [strVals, List.map_append]
                exact hown1
            case measure => simp [intOf]; omega
          · have h0 := getText_err (l := l) (p := q) (most := most) (by rw [hg]; exact he)
            rw [hg] at h0
            simp only [Prod.mk.injEq, and_true] at h0
            have Hbad : Hid (getTexts l p count most = ([], 0, e)) := by
              have := texts_bad (m := m') (pre := pre) (by rw [hg]) he
              exact Lib.hid (by rw [HT.out, Hj.out, hm', this])
            obtain ⟨rfl, rfl⟩ := h0
            have hei : ((e : Int) == 0) = false := by simp; omega
            have hgt : 0 < e := by omega
            clear hm' hg
            go_wp2_with fail
            refine hcl2.out.mono ?_
            rintro e w' ⟨rfl, rfl⟩
            go_wp2
            go_ret3
            exact givesTexts_err Hbad.out hb
        · obtain rfl : k = x := by omega
          have hd := texts_done l most q pre
          have Hd : Hid (getTexts l p count most = (pre, q, 0)) := Lib.hid (by rw [HT.out, Hj.out, Nat.sub_self, hd])
          clear hd
          go_wp2
          go_ret3
          unfold GivesTexts
          rw [Hd.out]
          exact ⟨_, rfl, by rw [Hp.out]; exact hown', hb⟩
  · rw [if_pos he] at hT
    have hgt : 0 < e := by omega
    have h3 := getNum_e_lt l p
    have h0 := getNum_err (l := l) (p := p) (by rw [hr]; exact he)
    rw [hr] at h3 h0
    simp only [Prod.mk.injEq, and_true] at h3 h0
    obtain ⟨rfl, rfl⟩ := h0
    have hei : ((e : Int) == 0) = false := by simp; omega
    have HT := Lib.hid hT
    clear hT hl hr
    go_enter Try.func68, Try.ntmps68
    go_wp2_with fail
    refine hcall2.out.mono ?_
    rintro e w' ⟨rfl, rfl⟩
    go_wp2
    go_ret3
    exact givesTexts_err HT.out (Below.refl _ _)

end Go.Proofs.Ytaljojjpgkmiiaa

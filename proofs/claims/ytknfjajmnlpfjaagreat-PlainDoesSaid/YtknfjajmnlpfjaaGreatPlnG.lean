/- The search for an index, the keys of all records, and what stands under a key, in a store in memory. -/
import Derived.Test.YtknfjajmnlpfjaaGreatPlnF
import Derived.Test.YtknfjajmnlpfjaaGreatShelf
namespace Go.Proofs.YtknfjajmnlpfjaaGreat
open Go.RowKit
open Go.Lib (strCells compareBytes)

/-- where the index with this number stands, or how many there are -/
def posI (id : Int) : List Ix → Nat
  | [] => 0
  | x :: l => if x.num = id then 0 else posI id l + 1
theorem posI_le (id : Int) : ∀ (l : List Ix), posI id l ≤ l.length
  | [] => by simp [posI]
  | x :: l => by
    have := posI_le id l
    unfold posI
    split <;> simp; omega
theorem posI_at {id : Int} : ∀ {l : List Ix} {i : Nat} {x : Ix}, l[i]? = some x → (∀ j y, j < i → l[j]? = some y → y.num ≠ id) → x.num = id → posI id l = i
  | [], i, x, h, _, _ => by simp at h
  | y :: l, 0, x, h, _, hx => by
    simp at h
    subst h
    simp [posI, hx]
  | y :: l, i + 1, x, h, hj, hx => by
    have hy := hj 0 y (by omega) (by simp)
    have ih := posI_at (l := l) (i := i) (x := x) (by simpa using h) (fun j z hj' hz => hj (j + 1) z (by omega) (by simpa using hz)) hx
    simp [posI, hy, ih]
theorem posI_none {id : Int} : ∀ {l : List Ix}, (∀ j y, j < l.length → l[j]? = some y → y.num ≠ id) → posI id l = l.length
  | [], _ => rfl
  | y :: l, hj => by
    have hy := hj 0 y (by simp) (by simp)
    have ih := posI_none (l := l) (fun j z hj' hz => hj (j + 1) z (by simp; omega) (by simpa using hz))
    simp [posI, hy, ih]
theorem posI_some {id : Int} : ∀ {l : List Ix}, posI id l < l.length → ∃ x, l[posI id l]? = some x ∧ x.num = id
  | [], h => by simp at h
  | y :: l, h => by
    unfold posI at h ⊢
    by_cases e : y.num = id
    · rw [if_pos e]; exact ⟨y, by simp, e⟩
    · rw [if_neg e] at h ⊢
      obtain ⟨x, hx, hn⟩ := posI_some (l := l) (id := id) (by simpa using h)
      exact ⟨x, by simpa using hx, hn⟩
def findT (id : Int) (l : List Ix) : Int := if posI id l < l.length then (posI id l : Int) else -1

theorem intcells_slice {w : World} {B m : Nat} {v : Value} {l : List Int} (h : w.ownsRow B 3 1 v m (intCells l)) : ∃ A c, v = .slice A m c ∧ m ≤ c ∧ c ≤ maxLen ∧ HasInts w w.heap.size A m l := by
  obtain ⟨A, c, e, h1, h2, h3⟩ := own_slice h
  exact ⟨A, c, e, h1, h2, by have := h3.1; simpa [intCells] using this, h3⟩
/-- element i of a row of indexes -/
theorem ix_at {w : World} {B n : Nat} {A : Option Addr} {X : List Ix} (h : Has w B A (n * 2) (ixCells X)) (hl : X.length = n) {i : Nat} (hi : i < n) : ∃ a x, A = some a ∧ a.block < B ∧ X[i]? = some x ∧ w.cell? (a.add (i * 2)) = some (.int .i64 x.num) ∧
    w.cell? ⟨(a.add (i * 2)).block, (a.add (i * 2)).off + 1, none⟩ = some x.v := by
  obtain ⟨c0, c1⟩ := ixCells_at X i X[i] (List.getElem?_eq_getElem (by omega))
  obtain ⟨a, rfl, hb, hc⟩ := h.all (by omega)
  refine ⟨a, _, rfl, hb, List.getElem?_eq_getElem (by omega), hc _ _ c0, ?_⟩
  rw [← addr_step a _ 1 (by omega)]
  exact hc _ _ c1

set_option maxRecDepth 100000 in
theorem find1_any (num id : Int) (A : Option Addr) (n c g : Nat) (w : World) (hc : w.cell? ⟨g, 0, none⟩ = some (.int .i64 id)) :
    Calls Tryz.prog 62 #[.agg #[.int .i64 num, .slice A n c], .pointer (some ⟨g, 0, none⟩)] w fun e w' => e = .returned (.bool (num == id)) ∧ Below w.heap.size w w' := by
  have hc' := keepcell (below_alloc w (.cells #[.int .i64 num, .slice A n c] 74)) hc
  go_enter Tryz.func62, Tryz.ntmps62
  go_wp2
  go_ret
  exact ⟨rfl, below_alloc _ _⟩

set_option maxRecDepth 100000 in
set_option maxHeartbeats 1600000 in
theorem ixFunc_any (X : List Ix) (id : Int) (A : Option Addr) (n c g : Nat) (w : World) (h : Has w w.heap.size A (n * 2) (ixCells X)) (hl : X.length = n) (hn : n ≤ maxLen) (hf : ∀ x ∈ X, ∃ A n c, x.v = .slice A n c) (hc : w.cell? ⟨g, 0, none⟩ = some (.int .i64 id)) :
    Calls Tryz.prog 61 #[.slice A n c, .func (.func 62) #[] #[.pointer (some ⟨g, 0, none⟩)]] w fun e w' => e = .returned (.int .i64 (findT id X)) ∧ Below w.heap.size w w' := by
  unfold maxLen at hn
  have H := Lib.hid h
  have Hf := Lib.hid hf
  have Hc := Lib.hid hc
  have Hl := Lib.hid hl
  clear h hf hc hl
  go_enter Tryz.func61, Tryz.ntmps61
  go_wp2
  go_loopw [5, 8] (fun _ i wr => ∃ k : Nat, k ≤ n ∧ i = .int .i64 (k : Int) ∧ Below w.heap.size w wr ∧ Hid (∀ j y, j < k → X[j]? = some y → y.num ≠ id)) (fun _ i _ => n - (intOf i).toNat)
  case atStart => exact ⟨0, by omega, rfl, Below.refl _ _, Lib.hid (fun j y hj => by omega)⟩
  case round =>
    obtain ⟨k, hk, rfl, hb, Hj⟩ := hrel
    have Hb := Lib.hid hb
    clear hb
    by_cases hlt : k < n
    · obtain ⟨a, x, rfl, hab, hx, c0, c1⟩ := ix_at (H.out.below Hb.out) Hl.out hlt
      obtain ⟨A', n', c', hv⟩ := Hf.out x (List.mem_of_getElem? hx)
      rw [hv] at c1
      have Hx := Lib.hid hx
      have hcg := keepcell Hb.out Hc.out
      have hk0 : (0 : Int) ≤ (k : Int) := by omega
      have hk1 : (k : Int) < (n : Int) := by omega
      clear hx hv
      by_cases he : x.num = id
      · have E : Hid (findT id X = k) := Lib.hid (by
          have hp := posI_at Hx.out Hj.out he
          unfold findT
          rw [hp, if_pos (by have := Hl.out; omega)])
        have heb : (x.num == id) = true := by simpa using he
        clear he
        go_wp2_with fail
        refine (find1_any x.num id A' n' c' g _ hcg).mono ?_
        rintro e w2 ⟨rfl, hb2⟩
        have Hb2 := Lib.hid (Below.then Hb.out hb2)
        clear hb2
        rw [heb]
        go_wp2
        go_ret
        exact ⟨by rw [E.out]; rfl, Hb2.out⟩
      · have heb : (x.num == id) = false := by simpa using he
        have Hj2 : Hid (∀ j y, j < k + 1 → X[j]? = some y → y.num ≠ id) := Lib.hid (fun j y hj hy => by
          rcases Nat.lt_or_ge j k with h | h
          · exact Hj.out j y h hy
          · have : j = k := by omega
            subst this
            rw [Hx.out] at hy
            injection hy with hy
            rw [← hy]; exact he)
        clear he
        go_wp2_with fail
        refine (find1_any x.num id A' n' c' g _ hcg).mono ?_
        rintro e w2 ⟨rfl, hb2⟩
        have Hb2 := Lib.hid (Below.then Hb.out hb2)
        clear hb2
        rw [heb]
        go_wp2
        go_roundw
        case rel => exact ⟨k + 1, by omega, by go_num, Hb2.out, Hj2⟩
        case measure => simp [intOf]; omega
    · have hkn : k = n := by omega
      have E : Hid (findT id X = -1) := Lib.hid (by
        have hp := posI_none (l := X) (id := id) (fun j y hj hy => Hj.out j y (by have := Hl.out; omega) hy)
        unfold findT
        rw [hp, if_neg (by omega)])
      go_wp2
      go_ret
      exact ⟨by rw [E.out]; rfl, Hb.out⟩

section
variable {B sb mb d : Nat} {ix : Value} {E : Kv (Value × List TVal)} {X : List Ix} {w : World}
set_option maxRecDepth 100000 in
theorem find_any (id : Int) (h : Store w B sb mb ix E X d) : Calls Tryz.prog 36 #[.pointer (some ⟨sb, 0, none⟩), .int .i64 id] w fun e w' => e = .returned (.int .i64 (findT id X)) ∧ Below w.heap.size w w' := by
  have h1 := h.below (below_alloc w (.cells #[.int .i64 id] 3))
  obtain ⟨A, c, rfl, hnc, hcm, hh⟩ := own_sliceN h1.irow
  have Hcall := Lib.hid (ixFunc_any X id A X.length c w.heap.size _ hh rfl (by omega) (fun x hx => by obtain ⟨A, c, e, _⟩ := intcells_slice (h1.flds x hx); exact ⟨A, _, c, e⟩) ((Box.made w 3 #[.int .i64 id]).cell 0))
  obtain ⟨q0, q1, q2, f0, f1, f2⟩ := h1.cells
  clear hh hcm hnc
  clear h1 h q0 q2 f0 f1 f2
  go_enter Tryz.func36, Tryz.ntmps36
  go_wp2_with fail
  refine Hcall.out.mono ?_
  rintro e w2 ⟨rfl, hb2⟩
  have Hb2 := Lib.hid (Below.then (below_alloc _ _) hb2)
  clear hb2 Hcall
  go_wp2
  go_ret
  exact ⟨rfl, Hb2.out⟩
end
end Go.Proofs.YtknfjajmnlpfjaaGreat

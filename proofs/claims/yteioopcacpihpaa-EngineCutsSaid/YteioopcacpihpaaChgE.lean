/- The document's Make and Merge of layer 9 give what the plain text (SpecRun) gives. Condition: rows in memory; Merge of ten lists of sixty changes at most. -/
import Derived.Test.YteioopcacpihpaaChgD
namespace Go.Proofs.Yteioopcacpihpaa
open Go.RowKit
open Go.Lib (strCells compareBytes)

theorem len_over : ∀ (l a : List Chg), (overL a l).length ≤ a.length + l.length
  | [], a => by simp [overL]
  | c :: l, a => by
    have h1 := len_over l (putC (tidy c) a)
    have h2 := len_putC (tidy c) a
    simp only [overL, List.foldl_cons, List.length_cons] at h1 ⊢
    omega
theorem len_merge : ∀ {rs : List (List Chg)}, (∀ r ∈ rs, r.length ≤ 60) → (mergeL rs).length ≤ 60 * rs.length
  | [], _ => by simp [mergeL]
  | r :: rs, h => by
    have h1 := len_merge (rs := rs) fun x hx => h x (List.mem_cons_of_mem _ hx)
    have h2 := len_over r (mergeL rs)
    have h3 := h r (by simp)
    simp only [mergeL, List.foldr_cons, List.length_cons] at h1 h2 ⊢
    omega
theorem merge_drop {rs : List (List Chg)} {k : Nat} {r : List Chg} (h : rs[k]? = some r) : mergeL (rs.drop k) = overL (mergeL (rs.drop (k + 1))) r := by
  have hk := (List.getElem?_eq_some_iff.1 h).1
  rw [List.drop_eq_getElem_cons hk]
  rw [List.getElem?_eq_getElem hk] at h
  injection h with h
  rw [h]
  rfl

set_option maxRecDepth 100000 in
set_option maxHeartbeats 1600000 in
theorem refMake_any (A : Option Addr) (n ca C : Nat) (l : List Chg) (w : World) (h : HasChs w C A n l) (hC : C ≤ w.heap.size) (hn : n ≤ 5000) :
    Calls Try.prog 14 #[.slice A n ca] w (GivesC w.heap.size (makeL l) w) := by
  have H := Lib.hid h
  have HC := Lib.hid hC
  clear h hC
  have Hl := Lib.hid H.out.1
  go_enter Try.func14, Try.ntmps14
  go_wp2
  go_loopw [3, 4] (fun o i wr => ∃ k : Nat, k ≤ n ∧ i = .int .i64 (k : Int) ∧ OwnChs wr w.heap.size o (overL [] (l.take k)) ∧ Below w.heap.size w wr) (fun _ i _ => n - (intOf i).toNat)
  case atStart => exact ⟨0, by omega, rfl, OwnChs.nil _ _, Below.refl _ _⟩
  case round =>
    obtain ⟨k, hk, rfl, hown, hb⟩ := hrel
    have hsz := hb.size
    by_cases hlt : k < n
    · obtain ⟨a, y, rfl, hab, hy, c0, c1, c2⟩ := (H.out.belowOf hb HC.out).at_ hlt
      have Hot := Lib.hid (over_take (a := []) hy)
      have hlen := len_over (l.take k) []
      obtain ⟨A1, n1, rfl, hc1, hm1, hh1⟩ := hown.slice
      obtain ⟨m1, hm⟩ : ∃ m, (overL [] (l.take k)).length = m := ⟨_, rfl⟩
      rw [hm] at hh1 hc1 hlen
      have Hh1 := Lib.hid hh1
      have Hb := Lib.hid hb
      have hm5 : m1 ≤ 10000 := by
        rw [List.length_take, List.length_nil] at hlen
        omega
      rw [hm]
      clear hown hh1 hm1 hlen hy hb
      obtain ⟨yk, yv, yg⟩ := y
      simp only at c0 c1 c2
      go_wp2_with fail
      refine (refPut_any A1 m1 n1 _ _ ⟨yk, yv, yg⟩ wr Hh1.out (Nat.le_refl _) hm5 hc1).mono ?_
      rintro e w2 ⟨v2, rfl, hown2, hb2⟩
      have Hown2 := Lib.hid hown2
      have Hb2 := Lib.hid (Hb.out.trans (hb2.mono hsz))
      clear hown2 hb2
      go_wp2
      go_roundw
      case rel => exact ⟨k + 1, by omega, by go_num, by rw [Hot.out]; exact own_baseN Hown2.out hsz, Hb2.out⟩
      case measure => simp [intOf]; omega
    · obtain rfl : k = n := by omega
      have E : Hid (l.take k = l) := Lib.hid (List.take_of_length_le (by have := Hl.out; omega))
      rw [E.out] at hown
      go_wp2
      go_ret
      exact ⟨_, rfl, hown, hb⟩

/-! ### rows of rows of changes -/
abbrev Crs := List (Value × List Chg)
def crCells (rs : Crs) : List Value := rs.map (·.1)
def crLists (rs : Crs) : List (List Chg) := rs.map (·.2)
/-- n rows of changes, in memory below block B -/
def HasCrs (w : World) (B : Nat) (A : Option Addr) (n : Nat) (rs : Crs) : Prop :=
  Has w B A n (crCells rs) ∧ ∀ r ∈ rs, ∃ A' m c, r.1 = .slice A' m c ∧ m ≤ c ∧ c ≤ maxLen ∧ HasChs w B A' m r.2
theorem HasCrs.belowOf {w w' : World} {B C n : Nat} {A : Option Addr} {rs : Crs} (h : HasCrs w B A n rs) (hb : Below C w w') (hC : B ≤ C) : HasCrs w' B A n rs :=
  ⟨h.1.belowOf hb hC, fun r hr => by
    obtain ⟨A', m, c, e, h1, h2, h3⟩ := h.2 r hr
    exact ⟨A', m, c, e, h1, h2, h3.belowOf hb hC⟩⟩
theorem HasCrs.len {w : World} {B n : Nat} {A : Option Addr} {rs : Crs} (h : HasCrs w B A n rs) : rs.length = n := by have := h.1.1; simpa [crCells] using this
theorem crLists_len (rs : Crs) : (crLists rs).length = rs.length := by simp [crLists]
/-- row i -/
theorem HasCrs.at_ {w : World} {B n : Nat} {A : Option Addr} {rs : Crs} (h : HasCrs w B A n rs) {i : Nat} (hi : i < n) : ∃ (a : Addr) (A' : Option Addr) (m c : Nat) (l : List Chg), A = some a ∧ a.block < B ∧ (crLists rs)[i]? = some l ∧ m ≤ c ∧ c ≤ maxLen ∧ HasChs w B A' m l ∧ w.cell? (a.add i) = some (.slice A' m c) ∧ (crCells rs)[i]? = some (.slice A' m c) := by
  have hil : i < rs.length := by have := h.len; omega
  obtain ⟨A', m, c, e, h1, h2, h3⟩ := h.2 rs[i] (List.getElem_mem hil)
  obtain ⟨a, rfl, hb, hc⟩ := h.1.all (by omega)
  have hg : (crCells rs)[i]? = some (.slice A' m c) := by simp [crCells, hil, e]
  exact ⟨a, A', m, c, _, rfl, hb, by simp [crLists, hil], h1, h2, h3, hc i _ hg, hg⟩

/-- What Merge answers: the run that is merged, or that one of the lists isn't a run. -/
def MergePost (B : Nat) (rs : List (List Chg)) (w : World) (e : Ending) (w' : World) : Prop :=
  Below B w w' ∧ (((∀ r ∈ rs, Run r) ∧ ∃ v, e = .returned (.tuple #[v, .int .i64 0]) ∧ OwnChs w' B v (mergeL rs)) ∨ ((¬ ∀ r ∈ rs, Run r) ∧ e = .returned (.tuple #[.slice none 0 0, .int .i64 3])))
end Go.Proofs.Yteioopcacpihpaa

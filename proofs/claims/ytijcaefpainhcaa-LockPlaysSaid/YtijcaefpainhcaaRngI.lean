/- The document's form: the least form of what is so from place to place. Condition: rows in memory. -/
import Derived.Test.YtijcaefpainhcaaRngH
import Derived.Test.YtijcaefpainhcaaRngD
namespace Go.Proofs.Ytijcaefpainhcaa
open Go.RowKit
open Go.Lib (strCells compareBytes)

def boCells (l : List Bool) : List Value := l.map Value.bool
theorem boCells_len (l : List Bool) : (boCells l).length = l.length := by simp [boCells]
theorem boCells_app (a b : List Bool) : boCells (a ++ b) = boCells a ++ boCells b := by simp [boCells]
theorem bo_elem : Elem Try.prog 4 1 (.bool false) := ⟨by kernel_rfl, rfl⟩
theorem one_bool (b : Bool) : ∀ u ∈ [Value.bool b], u.oneCell' = true := by
  intro u hu
  simp at hu
  subst hu
  rfl
def HasBo (w : World) (B : Nat) (A : Option Addr) (n : Nat) (l : List Bool) : Prop := Has w B A n (boCells l)
theorem HasBo.len {w : World} {B n : Nat} {A : Option Addr} {l : List Bool} (h : HasBo w B A n l) : l.length = n := by have := h.1; rwa [boCells_len] at this
theorem HasBo.at_ {w : World} {B n : Nat} {A : Option Addr} {l : List Bool} (h : HasBo w B A n l) {i : Nat} (hi : i < n) : ∃ a v, A = some a ∧ a.block < B ∧ l[i]? = some v ∧ w.cell? (a.add i) = some (.bool v) := by
  have hl := h.len
  obtain ⟨a, rfl, hb, hc⟩ := Has.all h (by omega)
  refine ⟨a, l[i], rfl, hb, List.getElem?_eq_getElem (by omega), hc _ _ ?_⟩
  simp [boCells, List.getElem?_eq_getElem (show i < l.length by omega)]
theorem HasBo.belowOf {w w' : World} {B n C : Nat} {A : Option Addr} {l : List Bool} (h : HasBo w B A n l) (hb : Below C w w') (hC : B ≤ C) : HasBo w' B A n l := Has.belowOf h hb hC
def OwnBo (w : World) (B : Nat) (v : Value) (l : List Bool) : Prop := w.ownsRow B 4 1 v l.length (boCells l)
theorem OwnBo.slice {w : World} {B : Nat} {v : Value} {l : List Bool} (h : OwnBo w B v l) : ∃ A c, v = .slice A l.length c ∧ l.length ≤ c ∧ c ≤ maxLen ∧ HasBo w w.heap.size A l.length l := own_slice h
theorem OwnBo.nil (w : World) (B : Nat) : OwnBo w B (.slice none 0 0) [] := World.ownsRow_nil _ _ _ _
theorem OwnBo.below {w w' : World} {B : Nat} {v : Value} {l : List Bool} (h : OwnBo w B v l) (hb : Below w.heap.size w w') : OwnBo w' B v l := own_belowN h hb

theorem set_hi (m : List Rg) (x : Rg) (h : ByteArray) : (rgCells (m ++ [x])).set (m.length * 2 + 1) (.string h) = rgCells (m ++ [⟨x.lo, h⟩]) := by
  rw [rgCells_app, rgCells_app, List.set_append_right _ _ (by rw [rgCells_len]; omega), rgCells_len]
  have : m.length * 2 + 1 - m.length * 2 = 1 := by omega
  rw [this]
  rfl
theorem addr_succ (a : Addr) (j : Nat) : a.add (j + 1) = ⟨a.block, a.off + (j + 1), none⟩ := by unfold Addr.add; rw [if_neg (by omega)]
theorem cell_of {at_ : List ByteArray} {k : Nat} {a b : ByteArray} (ha : at_[k]? = some a) (hb : at_[k + 1]?.getD ⟨#[]⟩ = b) : cellR at_ k = ⟨a, b⟩ := by
  unfold cellR
  rw [ha, hb]
  rfl

set_option maxRecDepth 100000 in
set_option maxHeartbeats 6400000 in
theorem form_any (A A' : Option Addr) (n c c' C : Nat) (at_ : List ByteArray) (is : List Bool) (w : World) (h : HasTx w C A n at_) (h' : HasBo w C A' n is) (hC : C ≤ w.heap.size) (hn : n ≤ 1000000) (hp : Places at_)
    {P : List UInt8 → Prop} (hP : ∀ (j : Nat) (a : ByteArray), at_[j]? = some a → (is[j]? = some true ↔ P a.data.toList)) (hs : ∀ (j : Nat) (a : ByteArray) (s : List UInt8), at_[j]? = some a → hasR (cellR at_ j) s → (P s ↔ P a.data.toList)) :
    Calls Try.prog 46 #[.slice A n c, .slice A' n c'] w fun e w' => ∃ m v, e = .returned v ∧ OwnRgs w' w.heap.size v m ∧ IsForm m P ∧ m.length ≤ n ∧ Below w.heap.size w w' := by
  have H := Lib.hid h
  have H' := Lib.hid h'
  have Hl := Lib.hid (And.intro h.len h'.len)
  have HC := Lib.hid hC
  have Hp := Lib.hid hp
  have Hdone := Lib.hid (fun m (hm : FInv at_ is m n) => And.intro (hm.done hp (h'.len.trans h.len.symm) (by have := h.len; omega) hP hs) hm.len)
  have hlen : is.length = at_.length := h'.len.trans h.len.symm
  have HL := Lib.hid hlen
  clear h h' hC hp hP hs hlen
  go_enter Try.func46, Try.ntmps46
  go_wp2
  go_loopw [5, 6, 7] (fun o iv _ wr => ∃ k : Nat, k ≤ n ∧ iv = .int .i64 (k : Int) ∧ (∃ m, OwnRgs wr w.heap.size o m ∧ Hid (FInv at_ is m k)) ∧ Below w.heap.size w wr) (fun _ iv _ _ => n - (intOf iv).toNat)
  case atStart => exact ⟨0, by omega, rfl, ⟨[], OwnRgs.nil _ _, Lib.hid (FInv.start _ _)⟩, Below.refl _ _⟩
  case round =>
    obtain ⟨k, hk, rfl, ⟨m, ho, Hf⟩, hb⟩ := hrel
    have Hb := Lib.hid hb
    have hsz := hb.size
    by_cases hlt : k < n
    · obtain ⟨a, y, rfl, hab, hy, c0⟩ := (H.out.belowOf hb HC.out).at_ hlt
      obtain ⟨b, z, rfl, hbb, hz, d0⟩ := (H'.out.belowOf hb HC.out).at_ hlt
      have Hy := Lib.hid hy
      have Hz := Lib.hid hz
      have hk0 : (0 : Int) ≤ (k : Int) := by omega
      have hk1 : (k : Int) < (n : Int) := by omega
      have Hml : Hid (m.length ≤ k) := Lib.hid Hf.out.len
      clear hy hz
      cases z with
      | false =>
        have Ho := Lib.hid ho
        have Hf1 := Lib.hid (Hf.out.skip Hp.out HL.out Hz.out)
        clear ho hb
        go_wp2
        go_roundw
        case rel => exact ⟨k + 1, by omega, by go_num, ⟨m, Ho.out, Hf1⟩, Hb.out⟩
        case measure => simp [intOf]; omega
      | true =>
        obtain ⟨hi, hhi⟩ : ∃ hi, at_[k + 1]?.getD ⟨#[]⟩ = hi := ⟨_, rfl⟩
        have Hcell := Lib.hid (cell_of Hy.out hhi)
        have Hnx : Hid ((k + 1 < n ∧ wr.cell? (a.add (k + 1)) = some (.string hi)) ∨ (k + 1 = n ∧ hi = ⟨#[]⟩)) := Lib.hid (by
          by_cases hkn : k + 1 < n
          · obtain ⟨a', v, e, -, hv, cv⟩ := (H.out.belowOf hb HC.out).at_ hkn
            injection e with e
            subst e
            rw [hv] at hhi
            exact .inl ⟨hkn, by rw [← hhi]; exact cv⟩
          · refine .inr ⟨by omega, ?_⟩
            rw [← hhi, List.getElem?_eq_none (by have := Hl.out.1; omega)]
            rfl)
        have hz0 : Hid (∀ j, k = j + 1 → ∃ u, is[j]? = some u ∧ wr.cell? (b.add j) = some (.bool u)) := Lib.hid fun j hj => by
          obtain ⟨b', u, e, -, hu, cu⟩ := (H'.out.belowOf hb HC.out).at_ (i := j) (by omega)
          injection e with e
          subst e
          exact ⟨u, hu, cu⟩
        clear hhi hb
        cases k with
        | zero =>
          rw [show a.add 0 = a from rfl] at c0
          rw [show b.add 0 = b from rfl] at d0
          rw [addr_succ] at Hnx
          simp only [Nat.zero_add] at Hnx
          have Hf1 : Hid (FInv at_ is (m ++ [⟨y, hi⟩]) 1) := Lib.hid (by rw [← Hcell.out]; exact Hf.out.new Hp.out HL.out Hz.out (by omega))
          obtain ⟨Ao, co, rfl, -, -, -⟩ := ho.slice
          unfold OwnRgs at ho
          obtain ⟨M, hM⟩ : ∃ M, m.length = M := ⟨_, rfl⟩
          rw [hM] at ho Hml ⊢
          have Ho := Lib.hid ho
          have HM := Lib.hid hM
          clear ho hM
          rcases Hnx.out with ⟨hkn, e0⟩ | ⟨rfl, rfl⟩
          all_goals
            go_wp2_with (first | (at_builtin; refine wpList_append_hasN rfl (.tmp 45) (.tmp 52) _ rfl 23 rg_elem (by omega) Try.underlying26 rfl (own_belowN Ho.out (below_box _)) rfl (rg_lit wr ⟨y, hi⟩) (rgCells_one _) (by have := Hml.out; simp only [maxLen]; omega) (by have := Hml.out; omega) (by simp only [World.size_alloc]; omega) ?_; intro v1 w1 o1 g1 z1; have HoE : Hid (OwnRgs w1 w.heap.size v1 (m ++ [⟨y, hi⟩])) := Lib.hid (by unfold OwnRgs; rw [List.length_append, rgCells_app, HM.out]; exact o1); have HbE : Hid (Below w.heap.size w w1) := Lib.hid ((Hb.out.alloc hsz _).grown g1 (by simp only [World.size_alloc]; omega) fun q hq => (Ho.out.lt q hq).1); clear o1 g1 z1) | (at_builtin; refine wpList_append_hasN rfl (.tmp 45) (.tmp 52) _ rfl 23 rg_elem (by omega) Try.underlying26 rfl (own_belowN Ho.out (below_box _)) rfl (rg_lit wr ⟨y, ⟨#[]⟩⟩) (rgCells_one _) (by have := Hml.out; simp only [maxLen]; omega) (by have := Hml.out; omega) (by simp only [World.size_alloc]; omega) ?_; intro v1 w1 o1 g1 z1; have HoE : Hid (OwnRgs w1 w.heap.size v1 (m ++ [⟨y, ⟨#[]⟩⟩])) := Lib.hid (by unfold OwnRgs; rw [List.length_append, rgCells_app, HM.out]; exact o1); have HbE : Hid (Below w.heap.size w w1) := Lib.hid ((Hb.out.alloc hsz _).grown g1 (by simp only [World.size_alloc]; omega) fun q hq => (Ho.out.lt q hq).1); clear o1 g1 z1))
            go_roundw
            case rel => exact ⟨1, by omega, by go_num, ⟨_, HoE.out, Hf1⟩, HbE.out⟩
            case measure => simp [intOf] <;> omega
        | succ j =>
          obtain ⟨u, hu, d1⟩ := hz0.out j rfl
          rw [addr_succ] at c0 d0 Hnx
          have hj0 : (0 : Int) ≤ (j : Int) := by omega
          have hj1 : (j : Int) < (n : Int) := by omega
          cases u with
          | false =>
            have Hf1 : Hid (FInv at_ is (m ++ [⟨y, hi⟩]) (j + 1 + 1)) := Lib.hid (by rw [← Hcell.out]; exact Hf.out.new Hp.out HL.out Hz.out (by intro q hq; obtain rfl : j = q := (by omega); exact hu))
            clear hu
            obtain ⟨Ao, co, rfl, -, -, -⟩ := ho.slice
            unfold OwnRgs at ho
            obtain ⟨M, hM⟩ : ∃ M, m.length = M := ⟨_, rfl⟩
            rw [hM] at ho Hml ⊢
            have Ho := Lib.hid ho
            have HM := Lib.hid hM
            clear ho hM
            rcases Hnx.out with ⟨hkn, e0⟩ | ⟨rfl, rfl⟩
            all_goals
              go_wp2_with (first | (at_builtin; refine wpList_append_hasN rfl (.tmp 45) (.tmp 52) _ rfl 23 rg_elem (by omega) Try.underlying26 rfl (own_belowN Ho.out (below_box _)) rfl (rg_lit wr ⟨y, hi⟩) (rgCells_one _) (by have := Hml.out; simp only [maxLen]; omega) (by have := Hml.out; omega) (by simp only [World.size_alloc]; omega) ?_; intro v1 w1 o1 g1 z1; have HoE : Hid (OwnRgs w1 w.heap.size v1 (m ++ [⟨y, hi⟩])) := Lib.hid (by unfold OwnRgs; rw [List.length_append, rgCells_app, HM.out]; exact o1); have HbE : Hid (Below w.heap.size w w1) := Lib.hid ((Hb.out.alloc hsz _).grown g1 (by simp only [World.size_alloc]; omega) fun q hq => (Ho.out.lt q hq).1); clear o1 g1 z1) | (at_builtin; refine wpList_append_hasN rfl (.tmp 45) (.tmp 52) _ rfl 23 rg_elem (by omega) Try.underlying26 rfl (own_belowN Ho.out (below_box _)) rfl (rg_lit wr ⟨y, ⟨#[]⟩⟩) (rgCells_one _) (by have := Hml.out; simp only [maxLen]; omega) (by have := Hml.out; omega) (by simp only [World.size_alloc]; omega) ?_; intro v1 w1 o1 g1 z1; have HoE : Hid (OwnRgs w1 w.heap.size v1 (m ++ [⟨y, ⟨#[]⟩⟩])) := Lib.hid (by unfold OwnRgs; rw [List.length_append, rgCells_app, HM.out]; exact o1); have HbE : Hid (Below w.heap.size w w1) := Lib.hid ((Hb.out.alloc hsz _).grown g1 (by simp only [World.size_alloc]; omega) fun q hq => (Ho.out.lt q hq).1); clear o1 g1 z1))
              go_roundw
              case rel => exact ⟨j + 1 + 1, by omega, by go_num, ⟨_, HoE.out, Hf1⟩, HbE.out⟩
              case measure => simp [intOf] <;> omega
          | true =>
            obtain ⟨m', x, rfl, -⟩ := Hf.out.on j rfl hu
            have Hf1 : Hid (FInv at_ is (m' ++ [⟨x.lo, hi⟩]) (j + 2)) := Lib.hid (by have := Hf.out.grow Hp.out HL.out Hz.out hu; rw [Hcell.out] at this; exact this)
            clear hu
            obtain ⟨Ao, co, rfl, -, -, -⟩ := ho.slice
            unfold OwnRgs at ho
            obtain ⟨M, hM⟩ : ∃ M, m'.length = M := ⟨_, rfl⟩
            have hMl : (m' ++ [x]).length = M + 1 := by simp [hM]
            rw [hMl] at ho ⊢
            obtain ⟨g, rfl, hBg⟩ := own_head ho (by omega)
            have s1 := ho.stored (M * 2 + 1) (.string hi)
            have p1 : wr.cell? ⟨g, M * 2 + 1, none⟩ = some (.string x.hi) := (World.ownsRow.cellAt ho (M * 2 + 1) (by omega)).trans (by rw [rgCells_app, List.getElem?_append_right (by rw [rgCells_len]; omega), rgCells_len, hM, show M * 2 + 1 - M * 2 = 1 from by omega]; rfl)
            have f1 := World.ownsRow.frozenAt ho (M * 2 + 1)
            have hgw := (ho.lt g rfl).2
            have HoE : Hid (OwnRgs (wr.setCell ⟨g, M * 2 + 1, none⟩ (.string hi)) w.heap.size (.slice (some ⟨g, 0, none⟩) (M + 1) co) (m' ++ [⟨x.lo, hi⟩])) := Lib.hid (by
              have h1 := s1.1
              subst hM
              rw [set_hi] at h1
              unfold OwnRgs
              simpa using h1)
            have HbE : Hid (Below w.heap.size w (wr.setCell ⟨g, M * 2 + 1, none⟩ (.string hi))) := Lib.hid (Hb.out.setCell (by exact hBg) _)
            have hM0 : (0 : Int) ≤ (M : Int) := by omega
            have hMb : M ≤ 1000000 := by have := Hml.out; omega
            clear ho s1 hM hMl
            rcases Hnx.out with ⟨hkn, e0⟩ | ⟨rfl, rfl⟩
            all_goals
              go_wp2
              go_roundw
              case rel => exact ⟨j + 2, by omega, by go_num, ⟨_, HoE.out, Hf1⟩, HbE.out⟩
              case measure => simp [intOf]; omega
    · obtain rfl : k = n := by omega
      have E := Lib.hid (Hdone.out m Hf.out)
      have Ho := Lib.hid ho
      clear ho hb
      go_wp2
      go_ret
      exact ⟨m, _, rfl, Ho.out, E.out.1, E.out.2, Hb.out⟩

end Go.Proofs.Ytijcaefpainhcaa

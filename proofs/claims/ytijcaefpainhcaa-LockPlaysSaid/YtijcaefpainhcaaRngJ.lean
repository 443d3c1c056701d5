/- The document's Least: a least form of what the ranges have. Condition: few ranges, in memory. -/
import Derived.Test.YtijcaefpainhcaaRngI
namespace Go.Proofs.Ytijcaefpainhcaa
open Go.RowKit
open Go.Lib (strCells compareBytes)

/-- what is so at each place -/
def isL (P : List UInt8 → Prop) [∀ s, Decidable (P s)] (l : List ByteArray) : List Bool := l.map fun a => decide (P a.data.toList)
section
variable {P : List UInt8 → Prop} [∀ s, Decidable (P s)]
theorem isL_len (l : List ByteArray) : (isL P l).length = l.length := by simp [isL]
theorem isL_succ {l : List ByteArray} {k : Nat} {a : ByteArray} (h : l[k]? = some a) : isL P (l.take (k + 1)) = isL P (l.take k) ++ [decide (P a.data.toList)] := by
  unfold isL
  rw [List.take_add_one, h, List.map_append]
  rfl
theorem isL_at {l : List ByteArray} (j : Nat) (a : ByteArray) (h : l[j]? = some a) : (isL P l)[j]? = some true ↔ P a.data.toList := by
  unfold isL
  rw [List.getElem?_map, h]
  simp
end
theorem HasTx.more_ {w : World} {B B' n : Nat} {A : Option Addr} {l : List ByteArray} (h : HasTx w B A n l) (hB : B ≤ B') : HasTx w B' A n l := Has.more h hB
/-- a least form of what is so, in new memory -/
def FormPost (n : Nat) (P : List UInt8 → Prop) (w : World) (e : Ending) (w' : World) : Prop :=
  ∃ (m : List Rg) (v : Value), e = .returned v ∧ OwnRgs w' w.heap.size v m ∧ IsForm m P ∧ m.length ≤ n ∧ Below w.heap.size w w'

set_option maxRecDepth 100000 in
set_option maxHeartbeats 3200000 in
theorem refLeast_any (A : Option Addr) (n c C : Nat) (l : List Rg) (w : World) (h : HasRgs w C A n l) (hC : C ≤ w.heap.size) (hn : n ≤ 100000) :
    Calls Try.prog 20 #[.slice A n c] w (FormPost (1 + 2 * n) (inS l) w) := by
  have H := Lib.hid h
  have Hl := Lib.hid h.1
  have HC := Lib.hid hC
  have Hpl := Lib.hid (places_any A n c C l w h hC (by omega))
  obtain ⟨hp1, hp2⟩ := places_are l
  have hN := placesN l n
  rw [List.take_of_length_le (by rw [h.1]; omega), h.1] at hN
  obtain ⟨at_, hat⟩ : ∃ a, placesL l = a := ⟨_, rfl⟩
  rw [hat] at hp1 hp2 hN Hpl
  have HP := Lib.hid (And.intro hp1 hp2)
  obtain ⟨N, hNe⟩ : ∃ N, at_.length = N := ⟨_, rfl⟩
  rw [hNe] at hN
  have HN := Lib.hid hNe
  have HNb := Lib.hid hN
  clear h hC hp1 hp2 hat hNe
  go_enter Try.func20, Try.ntmps20
  go_wp2_with fail
  refine Hpl.out.mono ?_
  rintro e w1 ⟨v1, rfl, o1, b1⟩
  obtain ⟨A1, c1, rfl, -, -, x1⟩ := o1.slice
  rw [HN.out] at x1 ⊢
  have Hat := Lib.hid x1
  have Hb1 := Lib.hid b1
  have hsz1 := b1.size
  have hNb : N ≤ 200001 := by omega
  clear o1 x1 b1 hN Hpl
  go_wp2
  go_loopw [4, 5] (fun o iv wr => ∃ k : Nat, k ≤ N ∧ iv = .int .i64 (k : Int) ∧ OwnBo wr w1.heap.size o (isL (inS l) (at_.take k)) ∧ Below w1.heap.size w1 wr) (fun _ iv _ => N - (intOf iv).toNat)
  case atStart => exact ⟨0, by omega, rfl, OwnBo.nil _ _, Below.refl _ _⟩
  case round =>
    obtain ⟨k, hk, rfl, ho, hb⟩ := hrel
    have Hb := Lib.hid hb
    have hsz := hb.size
    have Hlk : Hid ((isL (inS l) (at_.take k)).length = k) := Lib.hid (by rw [isL_len, List.length_take]; have := HN.out; omega)
    obtain ⟨Ao, co, rfl, -, -, -⟩ := ho.slice
    unfold OwnBo at ho
    rw [Hlk.out] at ho ⊢
    by_cases hlt : k < N
    · obtain ⟨a, y, rfl, hab, hy, c0⟩ := (Hat.out.belowOf hb (Nat.le_refl _)).at_ hlt
      have Hs := Lib.hid (isL_succ (P := inS l) hy)
      have Hin := Lib.hid (refIn_any A n c C l y wr (H.out.belowOf (Hb1.out.trans (hb.mono hsz1)) HC.out) (by have := HC.out; omega) (by omega))
      obtain ⟨d, hd⟩ : ∃ d, decide (inS l y.data.toList) = d := ⟨_, rfl⟩
      rw [hd] at Hs Hin
      have hk0 : (0 : Int) ≤ (k : Int) := by omega
      have hk1 : (k : Int) < (N : Int) := by omega
      have Ho := Lib.hid ho
      clear hy hd ho hb
      go_wp2_with fail
      refine Hin.out.mono ?_
      rintro e w2 ⟨rfl, b2⟩
      have Ho2 := Lib.hid (own_belowN Ho.out b2)
      have Hb2 : Hid (Below w1.heap.size w1 w2) := Lib.hid (Hb.out.trans (b2.mono hsz))
      have hsz2 := Hb2.out.size
      clear b2
      go_wp2_with (at_builtin; refine wpList_append_has rfl (.tmp 14) (.tmp 21) _ rfl 4 bo_elem Try.underlying63 rfl (own_belowN Ho2.out (below_box _)) rfl (Has.lit w2 #[.bool d] 4) (one_bool _) (by simp only [maxLen]; omega) (by omega) (by simp only [World.size_alloc]; omega) ?_; intro v3 w3 o3 g3 z3; have HoE : Hid (OwnBo w3 w1.heap.size v3 (isL (inS l) (at_.take (k + 1)))) := Lib.hid (by unfold OwnBo; rw [Hs.out, List.length_append, boCells_app, Hlk.out]; exact o3); have HbE : Hid (Below w1.heap.size w1 w3) := Lib.hid ((Hb2.out.alloc hsz2 _).grown g3 (by simp only [World.size_alloc]; omega) fun q hq => (Ho2.out.lt q hq).1); clear o3 g3 z3)
      go_roundw
      case rel => exact ⟨k + 1, by omega, by go_num, HoE.out, HbE.out⟩
      case measure => simp [intOf]; omega
    · obtain rfl : k = N := by omega
      have E : Hid (at_.take k = at_) := Lib.hid (List.take_of_length_le (by have := HN.out; omega))
      rw [E.out] at ho
      have hbo : HasBo wr wr.heap.size Ao k (isL (inS l) at_) := by
        obtain ⟨A', c', e', -, -, hx⟩ := OwnBo.slice (show OwnBo wr w1.heap.size (.slice Ao k co) (isL (inS l) at_) by unfold OwnBo; rw [isL_len, HN.out]; exact ho)
        rw [isL_len, HN.out] at e' hx
        injection e' with e1 _ _
        subst e1
        exact hx
      have Hfm := Lib.hid (form_any A1 Ao k c1 co wr.heap.size at_ _ wr ((Hat.out.belowOf hb (Nat.le_refl _)).more_ hsz) hbo (Nat.le_refl _) (by omega) HP.out.1 (isL_at (P := inS l)) (fun j a s ha hs => place_in HP.out.1 HP.out.2 ha hs))
      have HbE : Hid (Below w.heap.size w wr) := Lib.hid (Hb1.out.trans (hb.mono hsz1))
      clear ho hb hbo
      go_wp2_with fail
      refine Hfm.out.mono ?_
      rintro e w2 ⟨m, v, rfl, om, fm, lm, bm⟩
      have HE : Hid (OwnRgs w2 w.heap.size v m ∧ IsForm m (inS l) ∧ m.length ≤ 1 + 2 * n ∧ Below w.heap.size w w2) := Lib.hid ⟨own_baseN om HbE.out.size, fm, Nat.le_trans lm HNb.out, HbE.out.trans (bm.mono HbE.out.size)⟩
      clear om fm lm bm
      go_wp2
      go_ret
      exact ⟨m, v, rfl, HE.out.1, HE.out.2.1, HE.out.2.2.1, HE.out.2.2.2⟩

end Go.Proofs.Ytijcaefpainhcaa

/- What the laws of layer 8 call: opened, light, All, and a vault's state in plain words. Condition: few commands. -/
import Derived.Test.YtghcmlipbmmfjaaVltE
import Derived.Test.YtghcmlipbmmfjaaOpenActs
namespace Go.Proofs.Ytghcmlipbmmfjaa
open Go.RowKit
open Go.Lib (strCells)

section
variable {w : World} {B vb sb tb : Nat} {E : Nat → Prop} {S : DState} {T : ByteArray} {c : Nat}
def emptyB : ByteArray := ⟨#[]⟩
theorem opened_ok (h : Disk w B sb E S) (hoff : S.on = false) (hL : S.L.length ≤ 1000000) (hc : S.C = [] ∨ ∃ r, S.C = 61 :: r) (hT : (startT S.C emptyB).size + bulk (scanT S.L).1 ≤ 100000) :
    Calls Try.prog 10 #[.pointer (some ⟨sb, 0, none⟩)] w fun e w' => ∃ vb tb, e = .returned (.tuple #[.pointer (some ⟨vb, 0, none⟩), .pointer (some ⟨tb, 0, none⟩)]) ∧ Vlt w' B vb sb tb (Up E w w') (startS S) (allF (startT S.C emptyB) (scanT S.L).1) (scanT S.L).1.length ∧ Keeps E w w' := by
  have hb1 := dsk_alloc w (.cells #[.string ⟨#[]⟩, .int .i64 0] 37)
  have ht1 : Tape (w.alloc (.cells #[.string ⟨#[]⟩, .int .i64 0] 37)) w.heap.size ⟨#[]⟩ := ⟨0, Box.made _ _ _⟩
  have hd1 := (h.below hb1).more (D' := fun g => E g ∨ g = w.heap.size) fun g hg => .inl hg
  have Hop : Hid (Calls Try.prog 23 #[.pointer (some ⟨sb, 0, none⟩), tapeV w.heap.size] (w.alloc (.cells #[.string ⟨#[]⟩, .int .i64 0] 37)) fun e w' => ∃ vb, e = .returned (.tuple #[.pointer (some ⟨vb, 0, none⟩), .int .i64 0]) ∧ Vlt w' B vb sb w.heap.size (Up (fun g => E g ∨ g = w.heap.size) (w.alloc (.cells #[.string ⟨#[]⟩, .int .i64 0] 37)) w') (startS S) (allF (startT S.C emptyB) (scanT S.L).1) (scanT S.L).1.length ∧ Keeps (fun g => E g ∨ g = w.heap.size) (w.alloc (.cells #[.string ⟨#[]⟩, .int .i64 0] 37)) w') := Lib.hid (by
    rcases hc with hc | ⟨r, hc⟩
    · have e : startT S.C emptyB = ⟨#[]⟩ := by unfold startT; rw [if_pos hc]; rfl
      rw [e] at hT ⊢
      exact open_empty hd1 hoff ht1 (.inr rfl) hL hc (by omega)
    · have e : startT S.C emptyB = ⟨r.toArray⟩ := by unfold startT; rw [if_neg (by rw [hc]; simp), hc]; rfl
      rw [e] at hT ⊢
      exact open_state hd1 hoff ht1 (.inr rfl) hL r hc (by simpa [ByteArray.size] using hT))
  clear h hd1 ht1 hc hT
  have Hb1 := Lib.hid hb1
  clear hb1
  go_enter Try.func10, Try.ntmps10
  go_wp2_with fail
  refine Hop.out.mono ?_
  rintro e w2 ⟨vb, rfl, hv2, hk2⟩
  go_wp2
  go_ret2
  have hs2 := hk2.size
  simp only [World.size_alloc] at hs2
  refine ⟨_, _, rfl, hv2.more fun g hg => ?_, ⟨hk2.os.trans Hb1.out.os, hk2.tape.trans Hb1.out.tape, hk2.output.trans Hb1.out.output, by omega, fun i hi hn => (hk2.block i (by simp; omega) fun e => e.elim hn fun e => by omega).trans (Hb1.out.block i hi)⟩⟩
  rcases hg with (e | e) | e
  · exact .inl e
  · exact .inr (by omega)
  · simp only [World.size_alloc] at e
    exact .inr (by omega)

theorem allB_map (l : List (List UInt8)) : (l.map fun c => (⟨c.toArray⟩ : ByteArray)).foldl (fun s c => s ++ c ++ ⟨#[124]⟩) ⟨#[]⟩ = allF emptyB l := by
  unfold allF emptyB
  rw [List.foldl_map]
end
def textCells (l : List (List UInt8)) : List Value := l.map fun c => Value.string ⟨c.toArray⟩
theorem textCells_app (a b : List (List UInt8)) : textCells (a ++ b) = textCells a ++ textCells b := by simp [textCells]
theorem all_any (A : Option Addr) (n c B : Nat) (l : List (List UInt8)) (w : World) (h : Has w B A n (textCells l)) (hn : bulk l ≤ 1000000) :
    Calls Try.prog 17 #[.slice A n c] w fun e w' => e = .returned (.string (allF emptyB l)) ∧ w = w' := by
  have H := Lib.hid h
  have hl : l.length = n := by have := h.1; simpa [textCells] using this
  have Hl := Lib.hid hl
  have hb := bulk_len l
  have Hb := Lib.hid hn
  have hn1 : n ≤ 1000000 := by omega
  clear h hl hb hn
  go_enter Try.func17, Try.ntmps17
  go_wp2
  go_loop [3, 4] (fun s i => ∃ k : Nat, k ≤ n ∧ s = .string (allF emptyB (l.take k)) ∧ i = .int .i64 (k : Int)) (fun _ i => n - (intOf i).toNat)
  case atStart => exact ⟨0, by omega, rfl, rfl⟩
  case round =>
    obtain ⟨k, hk, rfl, rfl⟩ := hrel
    by_cases hlt : k < n
    · obtain ⟨a, rfl, _, hc⟩ := Has.cell H.out hlt
      have hkl : k < l.length := by have := Hl.out; omega
      obtain ⟨x, hx⟩ : ∃ x, l[k]? = some x := ⟨_, List.getElem?_eq_getElem hkl⟩
      have hcx : (textCells l).getD k undef = Value.string ⟨x.toArray⟩ := by simp [textCells, hx]
      rw [hcx] at hc
      have Ht : Hid (l.take (k + 1) = l.take k ++ [x]) := Lib.hid (by rw [List.take_add_one, hx]; rfl)
      have hbt := bulk_take l (k + 1)
      rw [Ht.out, bulk_app, bulk, bulk] at hbt
      have hB := Hb.out
      have hsz := allF_size emptyB (l.take k)
      have e0 : emptyB.size = 0 := rfl
      have hs1 : (allF emptyB (l.take k)).size ≤ 1000000 := by omega
      have hs2 : (ByteArray.mk x.toArray).size ≤ 1000000 := by show x.toArray.size ≤ _; simp only [List.size_toArray]; omega
      have k0 : (0 : Int) ≤ (k : Int) := by omega
      have k1 : (k : Int) < (n : Int) := by omega
      obtain ⟨T, hT⟩ : ∃ T, allF emptyB (l.take k) = T := ⟨_, rfl⟩
      obtain ⟨X, hX⟩ : ∃ X : ByteArray, ⟨x.toArray⟩ = X := ⟨_, rfl⟩
      rw [hT] at hs1 ⊢
      rw [hX] at hs2 hc
      have HT := Lib.hid hT
      have HX := Lib.hid hX
      clear hx hcx hbt hsz hT hX hkl hB e0
      go_wp2
      go_round
      case rel =>
        refine ⟨k + 1, by omega, ?_, by go_num⟩
        rw [Ht.out, allF_snoc, HT.out, HX.out]
      case measure => simp [intOf]; omega
    · obtain rfl : k = n := by omega
      have Hend : Hid (allF emptyB (l.take k) = allF emptyB l) := Lib.hid (by rw [List.take_of_length_le (by rw [Hl.out]; exact Nat.le_refl _)])
      go_wp2
      go_ret
      exact ⟨by rw [Hend.out]; rfl, rfl⟩

def actBulk : List TAct → Nat
  | [] => 0
  | o :: l => o.s.size + actBulk l
theorem actBulk_app (a b : List TAct) : actBulk (a ++ b) = actBulk a + actBulk b := by
  induction a with
  | nil => simp [actBulk]
  | cons x a ih => simp only [List.cons_append, actBulk, ih]; omega
def LightPost (n : Nat) (l : List TAct) (e : Ending) : Prop := ∃ b, e = .returned (.bool b) ∧ (b = true → n ≤ 60 ∧ actBulk l ≤ 4000)
theorem light_any (A : Option Addr) (n c B : Nat) (l : List TAct) (w : World) (h : HasActs w B A n l) (hn : n ≤ maxLen) (hs : ∀ u ∈ l, u.s.size ≤ maxLen) :
    Calls Try.prog 8 #[.slice A n c] w fun e w' => LightPost n l e ∧ w = w' := by
  unfold maxLen at hn
  have H := Lib.hid h
  have Hs := Lib.hid hs
  clear h hs
  go_enter Try.func8, Try.ntmps8
  by_cases h60 : 60 < n
  · go_wp2
    go_ret
    exact ⟨⟨false, rfl, fun e => by cases e⟩, rfl⟩
  · go_wp2
    go_loop [3, 4] (fun x i => ∃ k m : Nat, k ≤ n ∧ x = .int .i64 (m : Int) ∧ i = .int .i64 (k : Int) ∧ m ≤ 8001 ∧ Hid (m ≤ 4000 → m = actBulk (l.take k))) (fun _ i => n - (intOf i).toNat)
    case atStart => exact ⟨0, 0, by omega, rfl, rfl, by omega, Lib.hid fun _ => rfl⟩
    case round =>
      obtain ⟨k, m, hk, rfl, rfl, hm2, Hj⟩ := hrel
      by_cases hlt : k < n
      · by_cases hmm : m ≤ 4000
        · obtain ⟨a, o, rfl, _, ho, c0, c1, c2, c3⟩ := H.out.at_ hlt
          have Ht : Hid (l.take (k + 1) = l.take k ++ [o]) := Lib.hid (by rw [List.take_add_one, ho]; rfl)
          have hos := Hs.out o (List.mem_of_getElem? ho)
          unfold maxLen at hos
          have k0 : (0 : Int) ≤ (k : Int) := by omega
          have k1 : (k : Int) < (n : Int) := by omega
          clear c0 c2 c3 ho
          obtain ⟨z, hz⟩ : ∃ z, o.s.size = z := ⟨_, rfl⟩
          by_cases hzm : z ≤ 4001
          · have hmin : min ((o.s.size : Nat) : Int) 4001 = (z : Int) := by omega
            have Hz := Lib.hid hz
            clear hz
            go_wp2
            go_round
            case rel =>
              refine ⟨k + 1, m + z, by omega, by go_num, by go_num, by omega, Lib.hid fun h => ?_⟩
              rw [Ht.out, actBulk_app, ← Hj.out hmm, actBulk, actBulk, Hz.out]
              omega
            case measure => simp [intOf]; omega
          · have hmin : min ((o.s.size : Nat) : Int) 4001 = 4001 := by omega
            go_wp2
            go_round
            case rel => exact ⟨k + 1, m + 4001, by omega, by go_num, by go_num, by omega, Lib.hid fun h => by omega⟩
            case measure => simp [intOf]; omega
        · go_wp2
          go_ret
          exact ⟨⟨decide ((m : Int) ≤ 4000), rfl, fun e => by have := of_decide_eq_true e; omega⟩, rfl⟩
      · obtain rfl : k = n := by omega
        go_wp2
        go_ret
        refine ⟨⟨decide ((m : Int) ≤ 4000), rfl, fun h => ⟨by omega, ?_⟩⟩, rfl⟩
        have h1 := of_decide_eq_true h
        have e := Hj.out (by omega)
        rw [List.take_of_length_le (by rw [H.out.1]; exact Nat.le_refl _)] at e
        omega
end Go.Proofs.Ytghcmlipbmmfjaa

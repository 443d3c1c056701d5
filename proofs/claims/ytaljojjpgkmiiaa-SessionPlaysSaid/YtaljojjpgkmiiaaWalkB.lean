/- pack.GetNum at every place, and the document's GetNum, give what the readers of the plain text (SpecPack) give. Condition: the bytes are in memory, fewer than 2^62. -/
import Derived.Test.YtaljojjpgkmiiaaWalkA
namespace Go.Proofs.Ytaljojjpgkmiiaa
open Go.RowKit
open Go.Lib (strCells)

theorem getNum_out (A : Option Addr) (n c : Nat) (p : Int) (w : World) (hp : p < 0 ∨ (n : Int) < p) :
    Calls Try.prog 67 #[.slice A n c, .int .i64 p] w fun e w' =>
      e = .returned (.tuple #[.int .i64 0, .int .i64 0, .int .i64 1]) ∧ w = w' := by
  by_cases h : p < 0
  · go_enter Try.func67, Try.ntmps67
    go_wp2
    go_ret3
    exact ⟨rfl, rfl⟩
  · have hg : (n : Int) < p := by omega
    go_enter Try.func67, Try.ntmps67
    go_wp2
    go_ret3
    exact ⟨rfl, rfl⟩

theorem getNum_any (A : Option Addr) (n c B : Nat) (p : Int) (l : List UInt8) (w : World) (h : HasBytes w B A n l) (hn : n ≤ maxLen) (hnc : n ≤ c) :
    Calls Try.prog 67 #[.slice A n c, .int .i64 p] w fun e w' =>
      e = .returned (.tuple #[.int .i64 ((getNum l p).1 : Int), .int .i64 ((getNum l p).2.1 : Int), .int .i64 ((getNum l p).2.2 : Int)]) ∧ w = w' := by
  have hl := h.len
  by_cases hp : 0 ≤ p ∧ p ≤ n
  · obtain ⟨q, rfl⟩ : ∃ q : Nat, p = q := ⟨p.toNat, by omega⟩
    have e : getNum l q = getNumAt l q := by simp [getNum]; omega
    rw [e]
    exact getNum_in A n c q B l w h (by omega) hn hnc
  · have e : getNum l p = (0, 0, 1) := by unfold getNum; rw [if_neg (by omega)]
    rw [e]
    exact getNum_out A n c p w (by omega)

theorem ref_sum {X c k : Nat} (hX : X < 128 ^ k) (hk : k ≤ 8) (hc : c < 128) : wrap64 ((X : Int) + wrap64 ((c : Int) * 128 ^ k)) = ((X + 128 ^ k * c : Nat) : Int) := by
  have hp := pow_seven_le hk
  have hcp : c * 128 ^ k ≤ 127 * 72057594037927936 := Nat.mul_le_mul (by omega) hp
  have e : ((c : Int) * 128 ^ k) = ((c * 128 ^ k : Nat) : Int) := by
    rw [Int.natCast_mul, Int.natCast_pow]
    rfl
  have h1 := IntWalk.wrap64_in ((c * 128 ^ k : Nat) : Int) (by constructor <;> omega)
  rw [e, h1, IntWalk.wrap64_in _ (by constructor <;> omega), Nat.mul_comm c]
  omega
theorem ref_unit {k : Nat} (hk : k < 8) : wrap64 ((128 : Int) ^ k * 128) = ((128 ^ (k + 1) : Nat) : Int) := by
  have hp := pow_seven_le (k := k + 1) hk
  have e : ((128 : Int) ^ k * 128) = ((128 ^ (k + 1) : Nat) : Int) := by
    rw [← Int.pow_succ, Int.natCast_pow]
    rfl
  rw [e]
  generalize 128 ^ (k + 1) = U at hp ⊢
  exact IntWalk.wrap64_in _ (by constructor <;> omega)

/-- the document's answer for layer 1, as a value: (number, text, list, place, error) -/
def got (x : Nat) (s : List UInt8) (lv : Value) (u e : Nat) : Value := .agg #[.int .i64 x, .string ⟨s.toArray⟩, lv, .int .i64 u, .int .i64 e]

set_option maxRecDepth 100000 in
set_option maxHeartbeats 400000 in
theorem refNum_in (A : Option Addr) (n c p B : Nat) (l : List UInt8) (w : World) (h : HasBytes w B A n l) (hB : B ≤ w.heap.size) (hp : p ≤ n) (hn2 : n + 9 < 9223372036854775808) :
    Calls Try.prog 71 #[.slice A n c, .int .i64 (p : Int)] w fun e w' =>
      e = .returned (got (getNumAt l p).1 [] (.slice none 0 0) (getNumAt l p).2.1 (getNumAt l p).2.2) ∧ Below w.heap.size w w' := by
  have Hbl := Lib.hid h.len
  obtain ⟨b, hb⟩ : ∃ b, l.drop p = b := ⟨_, rfl⟩
  have Hb := Lib.hid hb
  clear hb
  have hfst : ¬ (p : Int) < 0 := by omega
  go_enter Try.func71, Try.ntmps71
  go_wp2
  go_loop [1, 5, 6, 7, 8] (fun at_ x u i _ => ∃ (k X : Nat), p + k ≤ n ∧ k ≤ 8 ∧ X < 128 ^ k ∧ at_ = .int .i64 ((p + k : Nat) : Int) ∧ x = .int .i64 X ∧ u = .int .i64 ((128 ^ k : Nat) : Int) ∧ i = .int .i64 k ∧ joinNum 0 0 (readNum 0 b) = joinNum k X (readNum k (l.drop (p + k)))) (fun _ _ _ i _ => 9 - (intOf i).toNat)
  case atStart => exact ⟨0, 0, by omega, by omega, by omega, rfl, rfl, rfl, rfl, by rw [← Hb.out]; rfl⟩
  case round =>
    obtain ⟨k, X, hk, hk8, hX, rfl, rfl, rfl, rfl, hj⟩ := hrel
    have Hj := Lib.hid hj
    clear hj
    have hpk := pow_seven_le hk8
    by_cases hlt : p + k < n
    · obtain ⟨a, rfl, hab, hc0⟩ := h.byte hlt
      have hc : ∀ o, (w.alloc o).cell? (a.add (p + k)) = some (.int .u8 ((l[p + k]?.getD 0).toNat : Int)) := fun o => by
        rw [World.cell?_alloc_lt w o _ (by rw [addr_block]; omega), hc0]
        simp
      clear hc0
      have Hd : Hid (l.drop (p + k) = l[p + k]?.getD 0 :: l.drop (p + k + 1)) := Lib.hid (drop_at (by have := Hbl.out; omega))
      have hlt256 := (l[p + k]?.getD 0).toNat_lt
      by_cases hc128 : 128 ≤ (l[p + k]?.getD 0).toNat
      · by_cases hk8' : k = 8
        · have hk8i : ((k : Int) == 8) = true := by simp; omega
          have Hv := Lib.hid (getNumAt_err Hb.out Hj.out (by rw [Hd.out]; exact readNum_form (.inl ⟨hc128, hk8'⟩)) (by decide))
          clear hk8'
          go_wp2
          refine bodyPost_ret (v := got 0 [] (.slice none 0 0) 0 3) ?_ rfl ?_
          · simp [results, Try.results71, go_sem, got]
          · rw [Hv.out]
            exact ⟨rfl, (Below.refl _ _).alloc (Nat.le_refl _) _⟩
        · have hk8i : ((k : Int) == 8) = false := by simp; omega
          go_wp2
          go_round
          case rel =>
            refine ⟨k + 1, X + 128 ^ k * ((l[p + k]?.getD 0).toNat % 128), by omega, by omega, pow_step hX (by omega), by go_num, ?_, ?_, by go_num, ?_⟩
            · have := ref_sum hX hk8 (c := (l[p + k]?.getD 0).toNat % 128) (by omega)
              rw [← this]
              rfl
            · rw [ref_unit (by omega)]
            · rw [Hj.out, Hd.out]
              exact readNum_more hk8' hc128
          case measure => simp [intOf]; omega
      · by_cases hz : (l[p + k]?.getD 0).toNat = 0 ∧ 0 < k
        · have hzi : (((l[p + k]?.getD 0).toNat : Int) == 0) = true := by simp; omega
          have hk0 : 0 < k := hz.2
          have Hv := Lib.hid (getNumAt_err Hb.out Hj.out (by rw [Hd.out]; exact readNum_form (.inr hz)) (by decide))
          clear hz
          go_wp2
          refine bodyPost_ret (v := got 0 [] (.slice none 0 0) 0 3) ?_ rfl ?_
          · simp [results, Try.results71, go_sem, got]
          · rw [Hv.out]
            exact ⟨rfl, (Below.refl _ _).alloc (Nat.le_refl _) _⟩
        · have Hv := Lib.hid (getNumAt_ok Hb.out Hj.out (by rw [Hd.out]; exact readNum_last hz (by omega)))
          have Ho : Hid (wrap64 ((X : Int) + wrap64 (((l[p + k]?.getD 0).toNat : Int) % 128 * 128 ^ k)) = ((X + 128 ^ k * (l[p + k]?.getD 0).toNat : Nat) : Int)) := by
            have := ref_sum hX hk8 (c := (l[p + k]?.getD 0).toNat % 128) (by omega)
            rw [show (l[p + k]?.getD 0).toNat % 128 = (l[p + k]?.getD 0).toNat from by omega] at this
            rw [show ((l[p + k]?.getD 0).toNat : Int) % 128 = ((l[p + k]?.getD 0).toNat : Int) from by omega]
            exact this
          have hzk : ¬ (0 < k) ∨ ¬ (l[p + k]?.getD 0).toNat = 0 := by omega
          clear hz
          by_cases hz0 : (l[p + k]?.getD 0).toNat = 0
          · have hzi : (((l[p + k]?.getD 0).toNat : Int) == 0) = true := by simp; omega
            have hk0 : ¬ 0 < k := by omega
            clear hz0 hzk
            go_wp2
            refine bodyPost_ret (v := got (X + 128 ^ k * (l[p + k]?.getD 0).toNat) [] (.slice none 0 0) (p + (k + 1)) 0) ?_ rfl ?_
            · simp [results, Try.results71, go_sem, got]
              rw [Ho.out]
              simp
              omega
            · rw [Hv.out]
              exact ⟨rfl, (Below.refl _ _).alloc (Nat.le_refl _) _⟩
          · have hzi : (((l[p + k]?.getD 0).toNat : Int) == 0) = false := by simp; omega
            clear hz0 hzk
            go_wp2
            refine bodyPost_ret (v := got (X + 128 ^ k * (l[p + k]?.getD 0).toNat) [] (.slice none 0 0) (p + (k + 1)) 0) ?_ rfl ?_
            · simp [results, Try.results71, go_sem, got]
              rw [Ho.out]
              simp
              omega
            · rw [Hv.out]
              exact ⟨rfl, (Below.refl _ _).alloc (Nat.le_refl _) _⟩
    · have Hv := Lib.hid (getNumAt_err Hb.out Hj.out (by rw [List.drop_eq_nil_of_le (by have := Hbl.out; omega)]; exact readNum_nil k X) (by decide))
      go_wp2
      refine bodyPost_ret (v := got 0 [] (.slice none 0 0) 0 2) ?_ rfl ?_
      · simp [results, Try.results71, go_sem, got]
      · rw [Hv.out]
        exact ⟨rfl, (Below.refl _ _).alloc (Nat.le_refl _) _⟩

theorem refNum_any (A : Option Addr) (n c B : Nat) (p : Int) (l : List UInt8) (w : World) (h : HasBytes w B A n l) (hB : B ≤ w.heap.size) (hn2 : n + 9 < 9223372036854775808) :
    Calls Try.prog 71 #[.slice A n c, .int .i64 p] w fun e w' =>
      e = .returned (got (getNum l p).1 [] (.slice none 0 0) (getNum l p).2.1 (getNum l p).2.2) ∧ Below w.heap.size w w' := by
  have hl := h.len
  by_cases hp : 0 ≤ p ∧ p ≤ n
  · obtain ⟨q, rfl⟩ : ∃ q : Nat, p = q := ⟨p.toNat, by omega⟩
    have e : getNum l q = getNumAt l q := by simp [getNum]; omega
    rw [e]
    exact refNum_in A n c q B l w h hB (by omega) hn2
  · have e : getNum l p = (0, 0, 1) := by unfold getNum; rw [if_neg (by omega)]
    have He := Lib.hid e
    clear e hl h
    by_cases hlo : p < 0
    · go_enter Try.func71, Try.ntmps71
      go_wp2
      refine bodyPost_ret (v := got 0 [] (.slice none 0 0) 0 1) ?_ rfl ?_
      · simp [results, Try.results71, go_sem, got]
      · rw [He.out]
        exact ⟨rfl, (Below.refl _ _).alloc (Nat.le_refl _) _⟩
    · have hgt : (n : Int) < p := by omega
      go_enter Try.func71, Try.ntmps71
      go_wp2
      refine bodyPost_ret (v := got 0 [] (.slice none 0 0) 0 1) ?_ rfl ?_
      · simp [results, Try.results71, go_sem, got]
      · rw [He.out]
        exact ⟨rfl, (Below.refl _ _).alloc (Nat.le_refl _) _⟩

end Go.Proofs.Ytaljojjpgkmiiaa

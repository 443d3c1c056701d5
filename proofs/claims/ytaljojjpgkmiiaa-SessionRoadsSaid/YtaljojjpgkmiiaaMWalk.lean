/- Rows of rows of bytes that the call owns, each row with its bytes. No condition. -/
import Derived.Test.YtaljojjpgkmiiaaRows
import Derived.Test.YtaljojjpgkmiiaaMMem
import Derived.Test.YtaljojjpgkmiiaaMSpec
import Derived.WalkKit
import Derived.WalkSpells
import Derived.Lib.Hide
import Derived.IntWalk
import Derived.BigQuiet
import Derived.Deep.QuietTactic
import Derived.Lib.AppendStr
import Derived.WalkLawsBesides
namespace Go.Proofs.Ytaljojjpgkmiiaa
open Go.RowKit
open Go.Lib (strCells)

theorem top_bit : ∀ c : Fin 256, bits .and .u8 ((c.val : Nat) : Int) 128 = if 128 ≤ c.val then 128 else 0 := by decide +kernel
theorem low_bits : ∀ c : Fin 256, bits .and .u8 ((c.val : Nat) : Int) 127 = ((c.val % 128 : Nat) : Int) := by decide +kernel
theorem top_on (c : UInt8) (h : 128 ≤ c.toNat) : bits .and .u8 (c.toNat : Int) 128 = 128 := by
  have := top_bit ⟨c.toNat, c.toNat_lt⟩
  simpa [h] using this
theorem top_off (c : UInt8) (h : c.toNat < 128) : bits .and .u8 (c.toNat : Int) 128 = 0 := by
  have := top_bit ⟨c.toNat, c.toNat_lt⟩
  simpa [show ¬ 128 ≤ c.toNat from by omega] using this
theorem low_of (c : UInt8) : bits .and .u8 (c.toNat : Int) 127 = ((c.toNat % 128 : Nat) : Int) := low_bits ⟨c.toNat, c.toNat_lt⟩

theorem or_small (a b : Nat) (ha : a < 9223372036854775808) (hb : b < 9223372036854775808) : bits .or .i64 (a : Int) (b : Int) = ((a ||| b : Nat) : Int) := by
  have h63 : (9223372036854775808 : Nat) = 2 ^ 63 := by decide
  have hab : a ||| b < 2 ^ 63 := Nat.or_lt_two_pow (by omega) (by omega)
  have e1 : (BitVec.ofInt 64 (a : Int)).toNat = a := by
    rw [BitVec.ofInt_natCast, BitVec.toNat_ofNat]
    exact Nat.mod_eq_of_lt (by omega)
  have e2 : (BitVec.ofInt 64 (b : Int)).toNat = b := by
    rw [BitVec.ofInt_natCast, BitVec.toNat_ofNat]
    exact Nat.mod_eq_of_lt (by omega)
  have e3 : bits .or .i64 (a : Int) (b : Int) = IntKind.i64.wrap (((BitVec.ofInt 64 (a : Int) ||| BitVec.ofInt 64 (b : Int)).toNat : Nat) : Int) := rfl
  rw [e3, BitVec.toNat_or, e1, e2, IntKind.wrap_i64]
  omega
theorem pow_seven (k : Nat) : (2 : Nat) ^ (7 * k) = 128 ^ k := by rw [Nat.pow_mul]
theorem pow_seven_le {k : Nat} (h : k ≤ 8) : (128 : Nat) ^ k ≤ 72057594037927936 := by
  have : (128 : Nat) ^ k ≤ 128 ^ 8 := Nat.pow_le_pow_right (by omega) h
  omega
/-- n |= int(c) << (7*k), where n is below 128^k -/
theorem or_shift {X c k : Nat} (hX : X < 128 ^ k) (hk : k ≤ 8) (hc : c < 128) : bits .or .i64 (X : Int) (wrap64 ((c : Int) * 2 ^ (7 * k))) = ((X + 128 ^ k * c : Nat) : Int) := by
  have hp := pow_seven_le hk
  have hcp : c * 128 ^ k ≤ 127 * 72057594037927936 := Nat.mul_le_mul (by omega) hp
  have e : ((c : Int) * 2 ^ (7 * k)) = ((c * 128 ^ k : Nat) : Int) := by
    rw [Int.natCast_mul, ← pow_seven, Int.natCast_pow]
    rfl
  rw [e, IntWalk.wrap64_in _ (by constructor <;> omega), or_small _ _ (by omega) (by omega)]
  congr 1
  have := Nat.two_pow_add_eq_or_of_lt (i := 7 * k) (b := X) (by rw [pow_seven]; exact hX) c
  rw [pow_seven] at this
  rw [Nat.mul_comm c, Nat.or_comm, ← this, Nat.add_comm]
theorem pow_step {X c k : Nat} (hX : X < 128 ^ k) (hc : c < 128) : X + 128 ^ k * c < 128 ^ (k + 1) := by
  rw [Nat.pow_succ]
  have : 128 ^ k * c + 128 ^ k ≤ 128 ^ k * 128 := by
    rw [← Nat.mul_succ]
    exact Nat.mul_le_mul_left _ (by omega)
  omega
theorem getNumAt_ok {l b : List UInt8} {p k X x u : Nat} {c : List UInt8} (hb : l.drop p = b) (hj : joinNum 0 0 (readNum 0 b) = joinNum k X (readNum k c)) (hr : joinNum k X (readNum k c) = (x, u, 0)) : getNumAt l p = (x, p + u, 0) := by
  rw [← readNum_start, hr, ← hb] at hj
  simpa using getNumAt_of hj
theorem getNumAt_err {l b : List UInt8} {p k X e : Nat} {c : List UInt8} (hb : l.drop p = b) (hj : joinNum 0 0 (readNum 0 b) = joinNum k X (readNum k c)) (hr : joinNum k X (readNum k c) = (0, 0, e)) (he : e ≠ 0) : getNumAt l p = (0, 0, e) := by
  rw [← readNum_start, hr, ← hb] at hj
  simpa [he] using getNumAt_of hj
theorem ret3_of {a b c a' b' c' : Int} (h1 : a = a') (h2 : b = b') (h3 : c = c') : Ending.returned (.tuple #[.int .i64 a, .int .i64 b, .int .i64 c]) = .returned (.tuple #[.int .i64 a', .int .i64 b', .int .i64 c']) := by rw [h1, h2, h3]

set_option maxHeartbeats 400000 in
theorem getNum_in (A : Option Addr) (n c p B : Nat) (l : List UInt8) (w : World) (h : HasBytes w B A n l) (hp : p ≤ n) (hn : n ≤ maxLen) (hnc : n ≤ c) :
    Calls Try.prog 67 #[.slice A n c, .int .i64 (p : Int)] w fun e w' =>
      e = .returned (.tuple #[.int .i64 ((getNumAt l p).1 : Int), .int .i64 ((getNumAt l p).2.1 : Int), .int .i64 ((getNumAt l p).2.2 : Int)]) ∧ w = w' := by
  unfold maxLen at hn
  have hcut : HasBytes w B (if c = p then A else A.map (·.add p)) (n - p) (l.drop p) := h.part hp hnc
  obtain ⟨A', hA⟩ : ∃ A', (if c = p then A else A.map (·.add p)) = A' := ⟨_, rfl⟩
  rw [hA] at hcut
  clear h
  obtain ⟨b, hb⟩ : ∃ b, l.drop p = b := ⟨_, rfl⟩
  rw [hb] at hcut
  have Hb := Lib.hid hb
  have Hbl := Lib.hid hcut.len
  clear hb
  have hfst : ¬ (p : Int) < 0 := by omega
  go_enter Try.func67, Try.ntmps67
  go_wp2
  go_loop [4, 7, 8, 9, 22] (fun x _ _ _ i => ∃ (k X : Nat), k ≤ n - p ∧ k ≤ 8 ∧ X < 128 ^ k ∧ i = .int .i64 k ∧ x = .int .i64 X ∧ joinNum 0 0 (readNum 0 b) = joinNum k X (readNum k (b.drop k))) (fun _ _ _ _ i => (n - p) - (intOf i).toNat)
  case atStart => exact ⟨0, 0, by omega, by omega, by omega, rfl, rfl, rfl⟩
  case round =>
    obtain ⟨k, X, hk, hk8, hX, rfl, rfl, hj⟩ := hrel
    have Hj := Lib.hid hj
    clear hj
    by_cases hlt : k < n - p
    · obtain ⟨a, rfl, _, hc⟩ := hcut.byte hlt
      have Hd : Hid (b.drop k = b[k]?.getD 0 :: b.drop (k + 1)) := Lib.hid (drop_at (by have := Hbl.out; omega))
      have hlow := low_of (b[k]?.getD 0)
      have hlt256 := (b[k]?.getD 0).toNat_lt
      by_cases hc128 : 128 ≤ (b[k]?.getD 0).toNat
      · have htop := top_on _ hc128
        by_cases hk8' : k = 8
        · have hk8i : ((k : Int) == 8) = true := by simp; omega
          have Hv := Lib.hid (getNumAt_err Hb.out Hj.out (by rw [Hd.out]; exact readNum_form (.inl ⟨hc128, hk8'⟩)) (by decide))
          clear hk8'
          go_wp2
          go_ret3
          rw [Hv.out]
          exact ⟨rfl, rfl⟩
        · have hk8i : ((k : Int) == 8) = false := by simp; omega
          go_wp2
          go_round
          case rel =>
            refine ⟨k + 1, X + 128 ^ k * ((b[k]?.getD 0).toNat % 128), by omega, by omega, pow_step hX (by omega), by go_num, ?_, ?_⟩
            · have := or_shift hX hk8 (c := (b[k]?.getD 0).toNat % 128) (by omega)
              rw [← this]
              rfl
            · rw [Hj.out, Hd.out]
              exact readNum_more hk8' hc128
          case measure => simp [intOf]; omega
      · have htop := top_off _ (by omega : (b[k]?.getD 0).toNat < 128)
        by_cases hz : (b[k]?.getD 0).toNat = 0 ∧ 0 < k
        · have hzi : (((b[k]?.getD 0).toNat : Int) == 0) = true := by simp; omega
          have hk0 : 0 < k := hz.2
          have Hv := Lib.hid (getNumAt_err Hb.out Hj.out (by rw [Hd.out]; exact readNum_form (.inr hz)) (by decide))
          clear hz
          go_wp2
          go_ret3
          rw [Hv.out]
          exact ⟨rfl, rfl⟩
        · have Hv := Lib.hid (getNumAt_ok Hb.out Hj.out (by rw [Hd.out]; exact readNum_last hz (by omega)))
          have Ho : Hid (bits .or .i64 (X : Int) (wrap64 (((b[k]?.getD 0).toNat : Int) % 128 * 2 ^ (7 * k))) = ((X + 128 ^ k * (b[k]?.getD 0).toNat : Nat) : Int)) := by
            have := or_shift hX hk8 (c := (b[k]?.getD 0).toNat % 128) (by omega)
            rw [show (b[k]?.getD 0).toNat % 128 = (b[k]?.getD 0).toNat from by omega] at this
            rw [show ((b[k]?.getD 0).toNat : Int) % 128 = ((b[k]?.getD 0).toNat : Int) from by omega]
            exact this
          have hzk : ¬ (0 < k) ∨ ¬ (b[k]?.getD 0).toNat = 0 := by omega
          clear hz
          rcases hzk with hzk | hzk
          · go_wp2
            go_ret3
            rw [Hv.out]
            exact ⟨ret3_of Ho.out (by simp; omega) rfl, rfl⟩
          · have hzi : (((b[k]?.getD 0).toNat : Int) == 0) = false := by simp; omega
            by_cases hk0 : 0 < k
            · go_wp2
              go_ret3
              rw [Hv.out]
              exact ⟨ret3_of Ho.out (by simp; omega) rfl, rfl⟩
            · go_wp2
              go_ret3
              rw [Hv.out]
              exact ⟨ret3_of Ho.out (by simp; omega) rfl, rfl⟩
    · have Hv := Lib.hid (getNumAt_err Hb.out Hj.out (by rw [List.drop_eq_nil_of_le (by have := Hbl.out; omega)]; exact readNum_nil k X) (by decide))
      go_wp2
      go_ret3
      rw [Hv.out]
      exact ⟨rfl, rfl⟩

end Go.Proofs.Ytaljojjpgkmiiaa

namespace Go.Proofs.Ytaljojjpgkmiiaa
open Go.RowKit
open Go.Lib (strCells)

theorem getNum_out (A : Option Addr) (n c : Nat) (p : Int) (w : World) (hp : p < 0 ∨ (n : Int) < p) :
    Calls Try.prog 67 #[.slice A n c, .int .i64 p] w fun e w' =>
      e = .returned (.tuple #[.int .i64 0, .int .i64 0, .int .i64 1]) ∧ w = w' := by
  by_cases h : p < 0
  · go_enter Try.func67, Try.ntmps67
    go_wp2
    go_ret3
    exact ⟨rfl, rfl⟩
  · have hg : (n : Int) < p := by omega
    go_enter Try.func67, Try.ntmps67
    go_wp2
    go_ret3
    exact ⟨rfl, rfl⟩

theorem getNum_any (A : Option Addr) (n c B : Nat) (p : Int) (l : List UInt8) (w : World) (h : HasBytes w B A n l) (hn : n ≤ maxLen) (hnc : n ≤ c) :
    Calls Try.prog 67 #[.slice A n c, .int .i64 p] w fun e w' =>
      e = .returned (.tuple #[.int .i64 ((getNum l p).1 : Int), .int .i64 ((getNum l p).2.1 : Int), .int .i64 ((getNum l p).2.2 : Int)]) ∧ w = w' := by
  have hl := h.len
  by_cases hp : 0 ≤ p ∧ p ≤ n
  · obtain ⟨q, rfl⟩ : ∃ q : Nat, p = q := ⟨p.toNat, by omega⟩
    have e : getNum l q = getNumAt l q := by simp [getNum]; omega
    rw [e]
    exact getNum_in A n c q B l w h (by omega) hn hnc
  · have e : getNum l p = (0, 0, 1) := by unfold getNum; rw [if_neg (by omega)]
    rw [e]
    exact getNum_out A n c p w (by omega)

theorem ref_sum {X c k : Nat} (hX : X < 128 ^ k) (hk : k ≤ 8) (hc : c < 128) : wrap64 ((X : Int) + wrap64 ((c : Int) * 128 ^ k)) = ((X + 128 ^ k * c : Nat) : Int) := by
  have hp := pow_seven_le hk
  have hcp : c * 128 ^ k ≤ 127 * 72057594037927936 := Nat.mul_le_mul (by omega) hp
  have e : ((c : Int) * 128 ^ k) = ((c * 128 ^ k : Nat) : Int) := by
    rw [Int.natCast_mul, Int.natCast_pow]
    rfl
  have h1 := IntWalk.wrap64_in ((c * 128 ^ k : Nat) : Int) (by constructor <;> omega)
  rw [e, h1, IntWalk.wrap64_in _ (by constructor <;> omega), Nat.mul_comm c]
  omega
theorem ref_unit {k : Nat} (hk : k < 8) : wrap64 ((128 : Int) ^ k * 128) = ((128 ^ (k + 1) : Nat) : Int) := by
  have hp := pow_seven_le (k := k + 1) hk
  have e : ((128 : Int) ^ k * 128) = ((128 ^ (k + 1) : Nat) : Int) := by
    rw [← Int.pow_succ, Int.natCast_pow]
    rfl
  rw [e]
  generalize 128 ^ (k + 1) = U at hp ⊢
  exact IntWalk.wrap64_in _ (by constructor <;> omega)

/-- the document's answer for layer 1, as a value: (number, text, list, place, error) -/
def got (x : Nat) (s : List UInt8) (lv : Value) (u e : Nat) : Value := .agg #[.int .i64 x, .string ⟨s.toArray⟩, lv, .int .i64 u, .int .i64 e]

set_option maxRecDepth 100000 in
set_option maxHeartbeats 400000 in
theorem refNum_in (A : Option Addr) (n c p B : Nat) (l : List UInt8) (w : World) (h : HasBytes w B A n l) (hB : B ≤ w.heap.size) (hp : p ≤ n) (hn2 : n + 9 < 9223372036854775808) :
    Calls Try.prog 71 #[.slice A n c, .int .i64 (p : Int)] w fun e w' =>
      e = .returned (got (getNumAt l p).1 [] (.slice none 0 0) (getNumAt l p).2.1 (getNumAt l p).2.2) ∧ Below w.heap.size w w' := by
  have Hbl := Lib.hid h.len
  obtain ⟨b, hb⟩ : ∃ b, l.drop p = b := ⟨_, rfl⟩
  have Hb := Lib.hid hb
  clear hb
  have hfst : ¬ (p : Int) < 0 := by omega
  go_enter Try.func71, Try.ntmps71
  go_wp2
  go_loop [1, 5, 6, 7, 8] (fun at_ x u i _ => ∃ (k X : Nat), p + k ≤ n ∧ k ≤ 8 ∧ X < 128 ^ k ∧ at_ = .int .i64 ((p + k : Nat) : Int) ∧ x = .int .i64 X ∧ u = .int .i64 ((128 ^ k : Nat) : Int) ∧ i = .int .i64 k ∧ joinNum 0 0 (readNum 0 b) = joinNum k X (readNum k (l.drop (p + k)))) (fun _ _ _ i _ => 9 - (intOf i).toNat)
  case atStart => exact ⟨0, 0, by omega, by omega, by omega, rfl, rfl, rfl, rfl, by rw [← Hb.out]; rfl⟩
  case round =>
    obtain ⟨k, X, hk, hk8, hX, rfl, rfl, rfl, rfl, hj⟩ := hrel
    have Hj := Lib.hid hj
    clear hj
    have hpk := pow_seven_le hk8
    by_cases hlt : p + k < n
    · obtain ⟨a, rfl, hab, hc0⟩ := h.byte hlt
      have hc : ∀ o, (w.alloc o).cell? (a.add (p + k)) = some (.int .u8 ((l[p + k]?.getD 0).toNat : Int)) := fun o => by
        rw [World.cell?_alloc_lt w o _ (by rw [addr_block]; omega), hc0]
        simp
      clear hc0
      have Hd : Hid (l.drop (p + k) = l[p + k]?.getD 0 :: l.drop (p + k + 1)) := Lib.hid (drop_at (by have := Hbl.out; omega))
      have hlt256 := (l[p + k]?.getD 0).toNat_lt
      by_cases hc128 : 128 ≤ (l[p + k]?.getD 0).toNat
      · by_cases hk8' : k = 8
        · have hk8i : ((k : Int) == 8) = true := by simp; omega
          have Hv := Lib.hid (getNumAt_err Hb.out Hj.out (by rw [Hd.out]; exact readNum_form (.inl ⟨hc128, hk8'⟩)) (by decide))
          clear hk8'
          go_wp2
          refine bodyPost_ret (v := got 0 [] (.slice none 0 0) 0 3) ?_ rfl ?_
          · simp [results, Try.results71, go_sem, got]
          · rw [Hv.out]
            exact ⟨rfl, (Below.refl _ _).alloc (Nat.le_refl _) _⟩
        · have hk8i : ((k : Int) == 8) = false := by simp; omega
          go_wp2
          go_round
          case rel =>
            refine ⟨k + 1, X + 128 ^ k * ((l[p + k]?.getD 0).toNat % 128), by omega, by omega, pow_step hX (by omega), by go_num, ?_, ?_, by go_num, ?_⟩
            · have := ref_sum hX hk8 (c := (l[p + k]?.getD 0).toNat % 128) (by omega)
              rw [← this]
              rfl
            · rw [ref_unit (by omega)]
            · rw [Hj.out, Hd.out]
              exact readNum_more hk8' hc128
          case measure => simp [intOf]; omega
      · by_cases hz : (l[p + k]?.getD 0).toNat = 0 ∧ 0 < k
        · have hzi : (((l[p + k]?.getD 0).toNat : Int) == 0) = true := by simp; omega
          have hk0 : 0 < k := hz.2
          have Hv := Lib.hid (getNumAt_err Hb.out Hj.out (by rw [Hd.out]; exact readNum_form (.inr hz)) (by decide))
          clear hz
          go_wp2
          refine bodyPost_ret (v := got 0 [] (.slice none 0 0) 0 3) ?_ rfl ?_
          · simp [results, Try.results71, go_sem, got]
          · rw [Hv.out]
            exact ⟨rfl, (Below.refl _ _).alloc (Nat.le_refl _) _⟩
        · have Hv := Lib.hid (getNumAt_ok Hb.out Hj.out (by rw [Hd.out]; exact readNum_last hz (by omega)))
          have Ho : Hid (wrap64 ((X : Int) + wrap64 (((l[p + k]?.getD 0).toNat : Int) % 128 * 128 ^ k)) = ((X + 128 ^ k * (l[p + k]?.getD 0).toNat : Nat) : Int)) := by
            have := ref_sum hX hk8 (c := (l[p + k]?.getD 0).toNat % 128) (by omega)
            rw [show (l[p + k]?.getD 0).toNat % 128 = (l[p + k]?.getD 0).toNat from by omega] at this
            rw [show ((l[p + k]?.getD 0).toNat : Int) % 128 = ((l[p + k]?.getD 0).toNat : Int) from by omega]
            exact this
          have hzk : ¬ (0 < k) ∨ ¬ (l[p + k]?.getD 0).toNat = 0 := by omega
          clear hz
          by_cases hz0 : (l[p + k]?.getD 0).toNat = 0
          · have hzi : (((l[p + k]?.getD 0).toNat : Int) == 0) = true := by simp; omega
            have hk0 : ¬ 0 < k := by omega
            clear hz0 hzk
            go_wp2
            refine bodyPost_ret (v := got (X + 128 ^ k * (l[p + k]?.getD 0).toNat) [] (.slice none 0 0) (p + (k + 1)) 0) ?_ rfl ?_
            · simp [results, Try.results71, go_sem, got]
              rw [Ho.out]
              simp
              omega
            · rw [Hv.out]
              exact ⟨rfl, (Below.refl _ _).alloc (Nat.le_refl _) _⟩
          · have hzi : (((l[p + k]?.getD 0).toNat : Int) == 0) = false := by simp; omega
            clear hz0 hzk
            go_wp2
            refine bodyPost_ret (v := got (X + 128 ^ k * (l[p + k]?.getD 0).toNat) [] (.slice none 0 0) (p + (k + 1)) 0) ?_ rfl ?_
            · simp [results, Try.results71, go_sem, got]
              rw [Ho.out]
              simp
              omega
            · rw [Hv.out]
              exact ⟨rfl, (Below.refl _ _).alloc (Nat.le_refl _) _⟩
    · have Hv := Lib.hid (getNumAt_err Hb.out Hj.out (by rw [List.drop_eq_nil_of_le (by have := Hbl.out; omega)]; exact readNum_nil k X) (by decide))
      go_wp2
      refine bodyPost_ret (v := got 0 [] (.slice none 0 0) 0 2) ?_ rfl ?_
      · simp [results, Try.results71, go_sem, got]
      · rw [Hv.out]
        exact ⟨rfl, (Below.refl _ _).alloc (Nat.le_refl _) _⟩

theorem refNum_any (A : Option Addr) (n c B : Nat) (p : Int) (l : List UInt8) (w : World) (h : HasBytes w B A n l) (hB : B ≤ w.heap.size) (hn2 : n + 9 < 9223372036854775808) :
    Calls Try.prog 71 #[.slice A n c, .int .i64 p] w fun e w' =>
      e = .returned (got (getNum l p).1 [] (.slice none 0 0) (getNum l p).2.1 (getNum l p).2.2) ∧ Below w.heap.size w w' := by
  have hl := h.len
  by_cases hp : 0 ≤ p ∧ p ≤ n
  · obtain ⟨q, rfl⟩ : ∃ q : Nat, p = q := ⟨p.toNat, by omega⟩
    have e : getNum l q = getNumAt l q := by simp [getNum]; omega
    rw [e]
    exact refNum_in A n c q B l w h hB (by omega) hn2
  · have e : getNum l p = (0, 0, 1) := by unfold getNum; rw [if_neg (by omega)]
    have He := Lib.hid e
    clear e hl h
    by_cases hlo : p < 0
    · go_enter Try.func71, Try.ntmps71
      go_wp2
      refine bodyPost_ret (v := got 0 [] (.slice none 0 0) 0 1) ?_ rfl ?_
      · simp [results, Try.results71, go_sem, got]
      · rw [He.out]
        exact ⟨rfl, (Below.refl _ _).alloc (Nat.le_refl _) _⟩
    · have hgt : (n : Int) < p := by omega
      go_enter Try.func71, Try.ntmps71
      go_wp2
      refine bodyPost_ret (v := got 0 [] (.slice none 0 0) 0 1) ?_ rfl ?_
      · simp [results, Try.results71, go_sem, got]
      · rw [He.out]
        exact ⟨rfl, (Below.refl _ _).alloc (Nat.le_refl _) _⟩

end Go.Proofs.Ytaljojjpgkmiiaa

namespace Go.Proofs.Ytaljojjpgkmiiaa
open Go.RowKit
open Go.Lib (strCells)

theorem numForm_small {k : Nat} (h : k < 128) : numForm k = [UInt8.ofNat k] := by rw [numForm, if_pos h]
theorem numForm_big {k : Nat} (h : 128 ≤ k) : numForm k = UInt8.ofNat (k % 128 + 128) :: numForm (k / 128) := by rw [numForm, if_neg (by omega)]
theorem numForm_len : ∀ (j k : Nat), k < 128 ^ (j + 1) → (numForm k).length ≤ j + 1
  | 0, k, h => by rw [numForm_small (by simpa using h)]; simp
  | j + 1, k, h => by
    by_cases hk : k < 128
    · rw [numForm_small hk]; simp
    · rw [numForm_big (by omega)]
      have := numForm_len j (k / 128) (by rw [Nat.pow_succ] at h; omega)
      simp only [List.length_cons]
      omega
theorem numForm_len9 {k : Nat} (h : k < 9223372036854775808) : (numForm k).length ≤ 9 := numForm_len 8 k (by omega)

theorem and_127 (k : Nat) (h : k < 9223372036854775808) : bits .and .i64 (k : Int) 127 = ((k % 128 : Nat) : Int) := by
  have h1 : bits .and .i64 (k : Int) 127 = (k : Int) % 128 := bits_mask .i64 63 (by decide) (fun n h0 h1 => IntWalk.i64_in n ⟨by omega, by omega⟩) 7 (by decide) k (by omega) (by omega)
  rw [h1]
  omega
theorem or_128 (k : Nat) : bits .or .i64 ((k % 128 : Nat) : Int) 128 = ((k % 128 + 128 : Nat) : Int) := by
  have h := or_small (k % 128) 128 (by omega) (by omega)
  have e := Nat.two_pow_add_eq_or_of_lt (i := 7) (b := k % 128) (by omega) 1
  rw [show (2 : Nat) ^ 7 * 1 = 128 from by decide] at e
  rw [Nat.or_comm, ← e, Nat.add_comm] at h
  exact h

set_option maxHeartbeats 400000 in
theorem addNum_any (B m k : Nat) (v : Value) (xs : List Value) (w : World) (hown : w.ownsRow B 5 1 v m xs) (hB : B ≤ w.heap.size) (hk : k < 9223372036854775808) (hm : m ≤ 70368744177664) :
    Calls Try.prog 102 #[v, .int .i64 (k : Int)] w (Gives B (m + (numForm k).length) (xs ++ byteCells (numForm k)) w) := by
  have hlen := numForm_len9 hk
  go_enter Try.func102, Try.ntmps102
  go_wp2
  go_loopw [0, 1] (fun v i wr => ∃ (k' : Nat) (pre : List UInt8), k' ≤ k ∧ i = .int .i64 (k' : Int) ∧ numForm k = pre ++ numForm k' ∧ wr.ownsRow B 5 1 v (m + pre.length) (xs ++ byteCells pre) ∧ Below B w wr) (fun _ i _ => (intOf i).toNat)
  case atStart => exact ⟨k, [], Nat.le_refl _, rfl, rfl, by simpa [byteCells] using hown, Below.refl _ _⟩
  case round =>
    obtain ⟨k', pre, hk', rfl, hf, hown', hb⟩ := hrel
    have Hf := Lib.hid hf
    have hpl : pre.length ≤ 9 := by have := congrArg List.length hf; simp only [List.length_append] at this; omega
    have hBr : B ≤ wr.heap.size := Nat.le_trans hB hb.size
    clear hf
    have hand := and_127 k' (by omega)
    have hor : bits .or .i64 ((k' : Int) % 128) 128 = (k' : Int) % 128 + 128 := or_128 k'
    by_cases hlt : 128 ≤ k'
    · go_wp2_with (at_builtin; refine wpList_append_has rfl (.tmp 7) (.tmp 12) _ rfl 5 u8_elem Try.underlying76 rfl (hown'.alloc _) rfl (Has.one wr _ _ _ rfl) (one_int _ _) (by simp only [maxLen]; omega) (by omega) (le_alloc hBr _) ?_; intro v' w1 hown1 hg1 _)
      have hb1 : Below B w w1 := below_own (hb.alloc hBr _) (hown'.alloc _) hg1 (le_alloc hBr _)
      go_roundw
      case rel =>
        refine ⟨k' / 128, pre ++ [UInt8.ofNat (k' % 128 + 128)], by omega, by go_num, ?_, ?_, hb1⟩
        · rw [Hf.out, numForm_big hlt, List.append_assoc]
          rfl
        · rw [byteCells_app, byte_cell _ (by omega), ← List.append_assoc, List.length_append]
          exact hown1
      case measure => simp [intOf]; omega
    · go_wp2_with (at_builtin; refine wpList_append_has rfl (.tmp 16) (.tmp 19) _ rfl 5 u8_elem Try.underlying76 rfl (hown'.alloc _) rfl (Has.one wr _ _ _ rfl) (one_int _ _) (by simp only [maxLen]; omega) (by omega) (le_alloc hBr _) ?_; intro v' w1 hown1 hg1 _)
      have hb1 : Below B w w1 := below_own (hb.alloc hBr _) (hown'.alloc _) hg1 (le_alloc hBr _)
      go_ret
      have hn : numForm k' = [UInt8.ofNat k'] := numForm_small (by omega)
      refine ret_own rfl hown1 ?_ ?_ hb1
      · rw [Hf.out, hn, List.length_append]; rfl
      · rw [Hf.out, hn, byteCells_app, byte_cell _ (by omega), List.append_assoc]

theorem gives_mono {B B' m : Nat} {xs : List Value} {w : World} {e : Ending} {w' : World} (h : Gives B m xs w e w') (hB : B' ≤ B) : ∃ v', e = .returned v' ∧ w'.ownsRow B 5 1 v' m xs ∧ Below B' w w' := by
  obtain ⟨v', he, ho, hb⟩ := h
  exact ⟨v', he, ho, hb.mono hB⟩

/-- Num -/
theorem num_any (k : Int) (w : World) (hk : k < 9223372036854775808) :
    Calls Try.prog 65 #[.int .i64 k] w (Gives w.heap.size (if k < 0 then [] else numForm k.toNat).length (byteCells (if k < 0 then [] else numForm k.toNat)) w) := by
  by_cases h : k < 0
  · rw [if_pos h]
    go_enter Try.func65, Try.ntmps65
    go_wp2
    go_ret
    exact ⟨_, rfl, World.ownsRow_nil _ _ _ _, Below.refl _ _⟩
  · rw [if_neg h]
    obtain ⟨q, rfl⟩ : ∃ q : Nat, k = q := ⟨k.toNat, by omega⟩
    rw [Int.toNat_natCast]
    go_enter Try.func65, Try.ntmps65
    go_wp2_with fail
    refine (addNum_any w.heap.size 0 q (.slice none 0 0) [] w (World.ownsRow_nil _ _ _ _) (Nat.le_refl _) (by omega) (by omega)).mono ?_
    rintro e w' ⟨v', rfl, hown, hb⟩
    go_wp2
    go_ret
    exact ret_own rfl hown (by omega) rfl hb

end Go.Proofs.Ytaljojjpgkmiiaa

namespace Go.Proofs.Ytaljojjpgkmiiaa
open Go.RowKit
open Go.Lib (strCells)

theorem size_bytes (s : ByteArray) : s.data.toList.length = s.size := Array.length_toList
theorem textForm_len (s : List UInt8) : (textForm s).length = (numForm s.length).length + s.length := by simp [textForm]

set_option maxHeartbeats 400000 in
theorem addText_any (B m : Nat) (v : Value) (xs : List Value) (s : ByteArray) (w : World) (hown : w.ownsRow B 5 1 v m xs) (hB : B ≤ w.heap.size) (hs : s.size ≤ 1000000) (hm : m ≤ 35184372088832) :
    Calls Try.prog 103 #[v, .string s] w (Gives B (m + (textForm s.data.toList).length) (xs ++ byteCells (textForm s.data.toList)) w) := by
  obtain ⟨i0, hi, hz, hs1, hb1⟩ := u8_elem.get
  have hlen := numForm_len9 (k := s.size) (by omega)
  go_enter Try.func103, Try.ntmps103
  go_wp2_with fail
  refine (addNum_any B m s.size v xs w hown hB (by omega) (by omega)).mono ?_
  rintro e w1 ⟨v1, rfl, hown1, hbel1⟩
  have hB1 : B ≤ w1.heap.size := Nat.le_trans hB hbel1.size
  go_wp2_with (at_builtin; refine Lib.wpList_append_own_string w1 rfl (.tmp 8) (.tmp 9) _ _ rfl B 5 i0 Try.underlying76 Try.underlying9 hi hz hs1 hb1 v1 _ _ rfl hown1 s rfl (by simp only [maxLen]; omega) (by omega) hB1 ?_; intro v2 w2 hown2 hg2 _)
  have hb2 : Below B w w2 := below_own hbel1 hown1 hg2 hB1
  go_ret
  refine ret_own rfl hown2 ?_ ?_ hb2
  · rw [textForm_len, size_bytes]; omega
  · rw [textForm, byteCells_app, size_bytes, List.append_assoc]; rfl

/-- Text -/
theorem text_any (s : ByteArray) (w : World) (hs : s.size ≤ 1000000) :
    Calls Try.prog 83 #[.string s] w (Gives w.heap.size (textForm s.data.toList).length (byteCells (textForm s.data.toList)) w) := by
  go_enter Try.func83, Try.ntmps83
  go_wp2_with fail
  refine (addText_any w.heap.size 0 (.slice none 0 0) [] s w (World.ownsRow_nil _ _ _ _) (Nat.le_refl _) hs (by omega)).mono ?_
  rintro e w' ⟨v', rfl, hown, hb⟩
  go_wp2
  go_ret
  exact ret_own rfl hown (by omega) rfl hb

end Go.Proofs.Ytaljojjpgkmiiaa

namespace Go.Proofs.Ytaljojjpgkmiiaa
open Go.RowKit
open Go.Lib (strCells)

/-- the texts ss, in memory -/
abbrev HasTexts (w : World) (B : Nat) (A : Option Addr) (n : Nat) (ss : List ByteArray) : Prop := Has w B A n (ss.map Value.string)
theorem HasTexts.len {w : World} {B n : Nat} {A : Option Addr} {ss : List ByteArray} (h : HasTexts w B A n ss) : ss.length = n := by have := h.1; rwa [List.length_map] at this
theorem HasTexts.text {w : World} {B n : Nat} {A : Option Addr} {ss : List ByteArray} {k : Nat} (h : HasTexts w B A n ss) (hk : k < n) :
    ∃ a, A = some a ∧ a.block < B ∧ w.cell? (a.add k) = some (.string (ss.getD k ByteArray.empty)) := by
  obtain ⟨a, e, hb, hc⟩ := h.cell hk
  have hl : k < ss.length := by have := h.len; omega
  exact ⟨a, e, hb, by rw [hc]; simp [hl]⟩

/-- the texts as lists of bytes -/
def raw (ss : List ByteArray) : List (List UInt8) := ss.map (·.data.toList)
theorem textsBody_app (a b : List (List UInt8)) : textsBody (a ++ b) = textsBody a ++ textsBody b := by
  induction a with
  | nil => rfl
  | cons x a ih => simp [textsBody, ih]
theorem raw_take_succ {ss : List ByteArray} {k : Nat} (h : k < ss.length) : raw (ss.take (k + 1)) = raw (ss.take k) ++ [(ss.getD k ByteArray.empty).data.toList] := by
  rw [List.take_succ_eq_append_getElem h]
  simp only [raw, List.map_append, List.map_cons, List.map_nil, List.getD_eq_getElem?_getD, List.getElem?_eq_getElem h, Option.getD_some]
theorem body_take_succ {ss : List ByteArray} {k : Nat} (h : k < ss.length) : textsBody (raw (ss.take (k + 1))) = textsBody (raw (ss.take k)) ++ textForm (ss.getD k ByteArray.empty).data.toList := by
  rw [raw_take_succ h, textsBody_app]
  simp [textsBody]
theorem body_take_le (ss : List ByteArray) (k : Nat) : (textsBody (raw (ss.take k))).length ≤ (textsBody (raw ss)).length := by
  have h := List.take_append_drop k ss
  have : textsBody (raw ss) = textsBody (raw (ss.take k)) ++ textsBody (raw (ss.drop k)) := by
    rw [← textsBody_app]
    unfold raw
    rw [← List.map_append, h]
  rw [this, List.length_append]
  omega
theorem body_mem {ss : List ByteArray} {k : Nat} (h : k < ss.length) : (ss.getD k ByteArray.empty).size ≤ (textsBody (raw ss)).length := by
  have h1 := body_take_le ss (k + 1)
  rw [body_take_succ h, List.length_append, textForm_len, size_bytes] at h1
  omega

set_option maxHeartbeats 400000 in
/-- Texts -/
theorem texts_any (A : Option Addr) (n c C : Nat) (ss : List ByteArray) (w : World) (h : HasTexts w C A n ss) (hC : C ≤ w.heap.size) (hs : (textsBody (raw ss)).length ≤ 1000000) (hn : n ≤ 1000000) :
    Calls Try.prog 66 #[.slice A n c] w (Gives w.heap.size (textsForm (raw ss)).length (byteCells (textsForm (raw ss))) w) := by
  have hlen := numForm_len9 (k := n) (by omega)
  have Hl := Lib.hid h.len
  go_enter Try.func66, Try.ntmps66
  go_wp2_with fail
  refine (addNum_any w.heap.size 0 n (.slice none 0 0) [] w (World.ownsRow_nil _ _ _ _) (Nat.le_refl _) (by omega) (by omega)).mono ?_
  rintro e w1 ⟨v1, rfl, hown1, hbel1⟩
  go_wp2
  go_loopw [3, 5, 11] (fun v _ i wr => ∃ k : Nat, k ≤ n ∧ i = .int .i64 (k : Int) ∧ wr.ownsRow w.heap.size 5 1 v ((numForm n).length + (textsBody (raw (ss.take k))).length) (byteCells (numForm n ++ textsBody (raw (ss.take k)))) ∧ Below w.heap.size w wr) (fun _ _ i _ => n - (intOf i).toNat)
  case atStart => exact ⟨0, by omega, rfl, by simpa [raw, textsBody] using hown1, hbel1⟩
  case round =>
    obtain ⟨k, hk, rfl, hown', hb⟩ := hrel
    have hBr : w.heap.size ≤ wr.heap.size := hb.size
    have hle := body_take_le ss k
    by_cases hlt : k < n
    · obtain ⟨a, rfl, hab, hc0⟩ := h.text hlt
      have hc : wr.cell? (a.add k) = some (.string (ss[k]?.getD ByteArray.empty)) := by
        rw [hb.cell (by rw [addr_block]; omega), hc0]
        simp
      clear hc0
      have hsz := body_mem (ss := ss) (k := k) (by have := Hl.out; omega)
      have Hs := Lib.hid (body_take_succ (ss := ss) (k := k) (by have := Hl.out; omega))
      simp only [List.getD_eq_getElem?_getD] at hsz Hs
      go_wp2_with fail
      refine (addText_any w.heap.size _ _ _ (ss[k]?.getD ByteArray.empty) wr hown' hBr (by omega) (by omega)).mono ?_
      rintro e w2 ⟨v2, rfl, hown2, hbel2⟩
      go_wp2
      go_roundw
      case rel =>
        refine ⟨k + 1, by omega, by go_num, ?_, hb.trans hbel2⟩
        rw [Hs.out, ← List.append_assoc, byteCells_app, List.length_append, ← Nat.add_assoc]
        exact hown2
      case measure => simp [intOf]; omega
    · go_wp2
      go_ret
      have e1 : ss.take k = ss := List.take_of_length_le (by have := Hl.out; omega)
      have e2 : (raw ss).length = n := by rw [raw, List.length_map, Hl.out]
      rw [e1] at hown'
      refine ret_own rfl hown' ?_ ?_ hb
      · rw [textsForm, e2, List.length_append]
      · rw [textsForm, e2]

end Go.Proofs.Ytaljojjpgkmiiaa

namespace Go.Proofs.Ytaljojjpgkmiiaa
open Go.RowKit
open Go.Lib (strCells)

set_option maxHeartbeats 400000 in
/-- GetText -/
theorem getText_any (A : Option Addr) (n c B : Nat) (p most : Int) (l : List UInt8) (w : World) (h : HasBytes w B A n l) (hn : n ≤ 4611686018427387904) (hnc : n ≤ c) :
    Calls Try.prog 104 #[.slice A n c, .int .i64 p, .int .i64 most] w fun e w' =>
      e = .returned (.tuple #[.string ⟨(getText l p most).1.toArray⟩, .int .i64 ((getText l p most).2.1 : Int), .int .i64 ((getText l p most).2.2 : Int)]) ∧ w = w' := by
  have hl := h.len
  obtain ⟨r, hr⟩ : ∃ r, getNum l p = r := ⟨_, rfl⟩
  obtain ⟨x, u, e⟩ := r
  have hcall := getNum_any A n c B p l w h (by unfold maxLen; omega) hnc
  rw [hr] at hcall
  have hT : getText l p most = if e ≠ 0 then ([], 0, e) else if most < x then ([], 0, 4) else if l.length - u < x then ([], 0, 2) else ((l.drop u).take x, u + x, 0) := by
    simp only [getText, hr]
  rw [hl] at hT
  have hcall2 := Lib.hid hcall
  clear hcall
  by_cases he : e = 0
  · subst he
    have hbd := getNum_bound (l := l) (p := p) (by rw [hr])
    rw [hr] at hbd
    simp only [hl] at hbd
    rw [if_neg (by omega)] at hT
    have Hl := Lib.hid hl
    clear hl hr
    by_cases hm : most < x
    · rw [if_pos hm] at hT
      have HT := Lib.hid hT
      clear hT
      go_enter Try.func104, Try.ntmps104
      go_wp2_with fail
      refine hcall2.out.mono ?_
      rintro e w' ⟨rfl, rfl⟩
      go_wp2
      go_ret3
      rw [HT.out]
      exact ⟨rfl, rfl⟩
    · rw [if_neg hm] at hT
      by_cases hs : n - u < x
      · rw [if_pos hs] at hT
        have HT := Lib.hid hT
        clear hT
        go_enter Try.func104, Try.ntmps104
        go_wp2_with fail
        refine hcall2.out.mono ?_
        rintro e w' ⟨rfl, rfl⟩
        go_wp2
        go_ret3
        rw [HT.out]
        exact ⟨rfl, rfl⟩
      · rw [if_neg hs] at hT
        have HT := Lib.hid hT
        clear hT
        have hux : u + x ≤ n := by omega
        have hcut : HasBytes w B (if c = u then A else A.map (·.add u)) (n - u) (l.drop u) := h.part (by omega) hnc
        obtain ⟨A', hA⟩ : ∃ A', (if c = u then A else A.map (·.add u)) = A' := ⟨_, rfl⟩
        rw [hA] at hcut
        have hcv := fun cap => run_string_of (P := Try.prog) (hcut.head (k := x) (by omega)) cap 76 9 5 Try.underlying76 Try.underlying5 Try.underlying9
        clear hcut
        go_enter Try.func104, Try.ntmps104
        go_wp2_with fail
        refine hcall2.out.mono ?_
        rintro e w' ⟨rfl, rfl⟩
        go_wp2
        go_ret3
        rw [HT.out]
        exact ⟨rfl, rfl⟩
  · rw [if_pos he] at hT
    have hgt : 0 < e := by omega
    have h3 := getNum_e_lt l p
    have h0 := getNum_err (l := l) (p := p) (by rw [hr]; exact he)
    rw [hr] at h3 h0
    simp only [Prod.mk.injEq, and_true] at h3 h0
    obtain ⟨rfl, rfl⟩ := h0
    have hei : ((e : Int) == 0) = false := by simp; omega
    have HT := Lib.hid hT
    clear hT hl hr
    go_enter Try.func104, Try.ntmps104
    go_wp2_with fail
    refine hcall2.out.mono ?_
    rintro e w' ⟨rfl, rfl⟩
    go_wp2
    go_ret3
    rw [HT.out]
    exact ⟨rfl, rfl⟩

end Go.Proofs.Ytaljojjpgkmiiaa

namespace Go.Proofs.Ytaljojjpgkmiiaa
open Go.RowKit
open Go.Lib (strCells)

theorem getText_bound {l : List UInt8} {p most : Int} (h : (getText l p most).2.2 = 0) : 0 ≤ p ∧ p < (getText l p most).2.1 ∧ (getText l p most).2.1 ≤ l.length ∧ (getText l p most).1.length ≤ most := by
  unfold getText at h ⊢
  simp only at h ⊢
  split at h
  · next h1 => exact absurd h h1
  · next h1 =>
    rw [if_neg h1]
    have hb := getNum_bound (l := l) (p := p) (by omega)
    split at h
    · simp at h
    · next h2 =>
      rw [if_neg h2]
      split at h
      · simp at h
      · next h3 =>
        rw [if_neg h3]
        simp only [List.length_take, List.length_drop]
        omega
theorem getText_err {l : List UInt8} {p most : Int} (h : (getText l p most).2.2 ≠ 0) : getText l p most = ([], 0, (getText l p most).2.2) := by
  unfold getText at h ⊢
  simp only at h ⊢
  split
  · rfl
  · next h1 =>
    rw [if_neg h1] at h
    split
    · rfl
    · next h2 =>
      rw [if_neg h2] at h
      split
      · rfl
      · next h3 => rw [if_neg h3] at h; simp at h
theorem getText_e_lt (l : List UInt8) (p most : Int) : (getText l p most).2.2 ≤ 4 := by
  have := getNum_e_lt l p
  unfold getText
  simp only
  split
  · simp only; omega
  · split
    · simp
    · split <;> simp

def joinTexts (pre : List (List UInt8)) (r : List (List UInt8) × Nat × Nat) : List (List UInt8) × Nat × Nat :=
  if r.2.2 ≠ 0 then ([], 0, r.2.2) else (pre ++ r.1, r.2.1, 0)
theorem getTextsFrom_err (l : List UInt8) (most : Int) : ∀ (m p : Nat), (getTextsFrom l most m p).2.2 ≠ 0 → getTextsFrom l most m p = ([], 0, (getTextsFrom l most m p).2.2)
  | 0, p, h => by simp [getTextsFrom] at h
  | m + 1, p, h => by
    unfold getTextsFrom at h ⊢
    simp only at h ⊢
    split
    · rfl
    · next h1 =>
      rw [if_neg h1] at h
      split
      · rfl
      · next h2 => rw [if_neg h2] at h; simp at h
theorem texts_start (l : List UInt8) (most : Int) (m p : Nat) : getTextsFrom l most m p = joinTexts [] (getTextsFrom l most m p) := by
  unfold joinTexts
  split
  · next h => exact getTextsFrom_err l most m p h
  · next h =>
    generalize getTextsFrom l most m p = r at h ⊢
    obtain ⟨a, b, c⟩ := r
    simp_all
theorem texts_bad {l : List UInt8} {most : Int} {m p e : Nat} {pre : List (List UInt8)} (h : (getText l p most).2.2 = e) (he : e ≠ 0) : joinTexts pre (getTextsFrom l most (m + 1) p) = ([], 0, e) := by
  subst h
  simp [getTextsFrom, joinTexts, he]
theorem texts_step {l s : List UInt8} {most : Int} {m p q : Nat} {pre : List (List UInt8)} (h : getText l p most = (s, q, 0)) : joinTexts pre (getTextsFrom l most (m + 1) p) = joinTexts (pre ++ [s]) (getTextsFrom l most m q) := by
  simp only [getTextsFrom, h, joinTexts]
  by_cases e : (getTextsFrom l most m q).2.2 = 0
  · simp [e]
  · simp [e]
theorem texts_done (l : List UInt8) (most : Int) (p : Nat) (pre : List (List UInt8)) : joinTexts pre (getTextsFrom l most 0 p) = (pre, p, 0) := by simp [getTextsFrom, joinTexts]

theorem getTextsFrom_bound (l : List UInt8) (most : Int) : ∀ (m p : Nat), p ≤ l.length → (getTextsFrom l most m p).2.2 = 0 → p + (getTextsFrom l most m p).1.length ≤ (getTextsFrom l most m p).2.1 ∧ (getTextsFrom l most m p).2.1 ≤ l.length
  | 0, p, hp, _ => by simp [getTextsFrom, hp]
  | m + 1, p, hp, h => by
    unfold getTextsFrom at h ⊢
    simp only at h ⊢
    split at h
    · next h1 => exact absurd h h1
    · next h1 =>
      rw [if_neg h1]
      have hb := getText_bound (l := l) (p := p) (most := most) (by omega)
      split at h
      · next h2 => exact absurd h h2
      · next h2 =>
        rw [if_neg h2]
        have := getTextsFrom_bound l most m (getText l p most).2.1 (by omega) (by omega)
        simp only [List.length_cons]
        omega
theorem getTexts_bound {l : List UInt8} {p count most : Int} (h : (getTexts l p count most).2.2 = 0) : 0 ≤ p ∧ p < (getTexts l p count most).2.1 ∧ (getTexts l p count most).2.1 ≤ l.length ∧ (getTexts l p count most).1.length ≤ l.length := by
  unfold getTexts at h ⊢
  simp only at h ⊢
  split at h
  · next h1 => exact absurd h h1
  · next h1 =>
    rw [if_neg h1]
    have hb := getNum_bound (l := l) (p := p) (by omega)
    split at h
    · simp at h
    · next h2 =>
      rw [if_neg h2]
      have := getTextsFrom_bound l most (getNum l p).1 (getNum l p).2.1 (by omega) h
      omega
theorem getTexts_err {l : List UInt8} {p count most : Int} (h : (getTexts l p count most).2.2 ≠ 0) : getTexts l p count most = ([], 0, (getTexts l p count most).2.2) := by
  unfold getTexts at h ⊢
  simp only at h ⊢
  split
  · rfl
  · next h1 =>
    rw [if_neg h1] at h
    split
    · rfl
    · next h2 =>
      rw [if_neg h2] at h
      exact getTextsFrom_err l most _ _ h
theorem getTexts_len (l : List UInt8) (p count most : Int) : (getTexts l p count most).1.length ≤ l.length := by
  by_cases h : (getTexts l p count most).2.2 = 0
  · exact (getTexts_bound h).2.2.2
  · rw [getTexts_err h]; simp

/-- the texts as values -/
def strVals (L : List (List UInt8)) : List Value := L.map fun s => .string ⟨s.toArray⟩
theorem strVals_one (L : List (List UInt8)) : ∀ u ∈ strVals L, u.oneCell' = true := by
  intro u hu
  simp only [strVals, List.mem_map] at hu
  obtain ⟨_, _, rfl⟩ := hu
  rfl
theorem str_elem : Elem Try.prog 9 16 (.string ⟨#[]⟩) := ⟨by kernel_rfl, rfl⟩

/-- GetTexts' answer: the list is a row of the call's own. -/
def GivesTexts (B : Nat) (r : List (List UInt8) × Nat × Nat) (w : World) (e : Ending) (w' : World) : Prop :=
  ∃ v, e = .returned (.tuple #[v, .int .i64 (r.2.1 : Int), .int .i64 (r.2.2 : Int)]) ∧ w'.ownsRow B 9 1 v r.1.length (strVals r.1) ∧ Below B w w'
theorem givesTexts_err {B : Nat} {w w' : World} {r : List (List UInt8) × Nat × Nat} {e : Nat} (h : r = ([], 0, e)) (hb : Below B w w') :
    GivesTexts B r w (.returned (.tuple #[.slice none 0 0, .int .i64 0, .int .i64 (e : Int)])) w' := by
  subst h
  exact ⟨_, rfl, World.ownsRow_nil _ _ _ _, hb⟩

set_option maxHeartbeats 400000 in
set_option maxRecDepth 100000 in
/-- GetTexts -/
theorem getTexts_any (A : Option Addr) (n c C : Nat) (p count most : Int) (l : List UInt8) (w : World) (h : HasBytes w C A n l) (hC : C ≤ w.heap.size) (hn : n ≤ 1000000) (hnc : n ≤ c) :
    Calls Try.prog 68 #[.slice A n c, .int .i64 p, .int .i64 count, .int .i64 most] w (GivesTexts w.heap.size (getTexts l p count most) w) := by
  have hl := h.len
  obtain ⟨r, hr⟩ : ∃ r, getNum l p = r := ⟨_, rfl⟩
  obtain ⟨x, u, e⟩ := r
  have hcall := getNum_any A n c C p l w h (by unfold maxLen; omega) hnc
  rw [hr] at hcall
  have hT : getTexts l p count most = if e ≠ 0 then ([], 0, e) else if count < x then ([], 0, 4) else getTextsFrom l most x u := by
    simp only [getTexts, hr]
  have hcall2 := Lib.hid hcall
  clear hcall
  by_cases he : e = 0
  · subst he
    have hbd := getNum_bound (l := l) (p := p) (by rw [hr])
    rw [hr] at hbd
    simp only [hl] at hbd
    rw [if_neg (by omega)] at hT
    have Hl := Lib.hid hl
    clear hl hr
    by_cases hm : count < x
    · rw [if_pos hm] at hT
      have HT := Lib.hid hT
      clear hT
      go_enter Try.func68, Try.ntmps68
      go_wp2_with fail
      refine hcall2.out.mono ?_
      rintro e w' ⟨rfl, rfl⟩
      go_wp2
      go_ret3
      exact givesTexts_err HT.out (Below.refl _ _)
    · rw [if_neg hm] at hT
      have HT := Lib.hid hT
      clear hT
      go_enter Try.func68, Try.ntmps68
      go_wp2_with fail
      refine hcall2.out.mono ?_
      rintro e w' ⟨rfl, rfl⟩
      go_wp2
      go_loopw [8, 9, 27] (fun v nx i wr => ∃ (k q : Nat) (pre : List (List UInt8)), k ≤ x ∧ k ≤ q ∧ q ≤ n ∧ i = .int .i64 (k : Int) ∧ nx = .int .i64 (q : Int) ∧ pre.length = k ∧ getTextsFrom l most x u = joinTexts pre (getTextsFrom l most (x - k) q) ∧ wr.ownsRow w.heap.size 9 1 v k (strVals pre) ∧ Below w.heap.size w wr) (fun _ _ i _ => x - (intOf i).toNat)
      case atStart => exact ⟨0, u, [], by omega, by omega, by omega, rfl, rfl, rfl, texts_start _ _ _ _, World.ownsRow_nil _ _ _ _, Below.refl _ _⟩
      case round =>
        obtain ⟨k, q, pre, hk, hkq, hq, rfl, rfl, hpre, hj, hown', hb⟩ := hrel
        have Hj := Lib.hid hj
        have Hp := Lib.hid hpre
        clear hj hpre
        have hBr : w.heap.size ≤ wr.heap.size := hb.size
        by_cases hlt : k < x
        · obtain ⟨g, hg⟩ : ∃ g, getText l q most = g := ⟨_, rfl⟩
          obtain ⟨s, q', e⟩ := g
          have hcl := getText_any A n c C q most l wr (h.belowOf hb hC) (by omega) hnc
          rw [hg] at hcl
          have hcl2 := Lib.hid hcl
          clear hcl
          obtain ⟨m', hm'⟩ : ∃ m', x - k = m' + 1 := ⟨x - k - 1, by omega⟩
          by_cases he : e = 0
          · subst he
            have hbt := getText_bound (l := l) (p := q) (most := most) (by rw [hg])
            rw [hg] at hbt
            simp only [Hl.out] at hbt
            have Hst := Lib.hid (texts_step (m := m') (pre := pre) hg)
            have Hm := Lib.hid hm'
            clear hm' hg
            go_wp2_with fail
            refine hcl2.out.mono ?_
            rintro e w' ⟨rfl, rfl⟩
            go_wp2_with (at_builtin; refine wpList_append_has rfl (.tmp 40) (.tmp 42) _ rfl 9 str_elem Try.underlying27 rfl (hown'.alloc _) rfl (Has.one wr _ _ _ rfl) (one_string _) (by simp only [maxLen]; omega) (by omega) (le_alloc hBr _) ?_; intro v' w1 hown1 hg1 _)
            have hb1 : Below w.heap.size w w1 := below_own (hb.alloc hBr _) (hown'.alloc _) hg1 (le_alloc hBr _)
            go_roundw
            case rel =>
              refine ⟨k + 1, q', pre ++ [s], by omega, by omega, by omega, by go_num, rfl, by rw [List.length_append, Hp.out]; rfl, ?_, ?_, hb1⟩
              · rw [Hj.out, Hm.out, Hst.out]
                congr 2
                have := Hm.out
                omega
              · rw [strVals, List.map_append]
                exact hown1
            case measure => simp [intOf]; omega
          · have h0 := getText_err (l := l) (p := q) (most := most) (by rw [hg]; exact he)
            rw [hg] at h0
            simp only [Prod.mk.injEq, and_true] at h0
            have Hbad : Hid (getTexts l p count most = ([], 0, e)) := by
              have := texts_bad (m := m') (pre := pre) (by rw [hg]) he
              exact Lib.hid (by rw [HT.out, Hj.out, hm', this])
            obtain ⟨rfl, rfl⟩ := h0
            have hei : ((e : Int) == 0) = false := by simp; omega
            have hgt : 0 < e := by omega
            clear hm' hg
            go_wp2_with fail
            refine hcl2.out.mono ?_
            rintro e w' ⟨rfl, rfl⟩
            go_wp2
            go_ret3
            exact givesTexts_err Hbad.out hb
        · obtain rfl : k = x := by omega
          have hd := texts_done l most q pre
          have Hd : Hid (getTexts l p count most = (pre, q, 0)) := Lib.hid (by rw [HT.out, Hj.out, Nat.sub_self, hd])
          clear hd
          go_wp2
          go_ret3
          unfold GivesTexts
          rw [Hd.out]
          exact ⟨_, rfl, by rw [Hp.out]; exact hown', hb⟩
  · rw [if_pos he] at hT
    have hgt : 0 < e := by omega
    have h3 := getNum_e_lt l p
    have h0 := getNum_err (l := l) (p := p) (by rw [hr]; exact he)
    rw [hr] at h3 h0
    simp only [Prod.mk.injEq, and_true] at h3 h0
    obtain ⟨rfl, rfl⟩ := h0
    have hei : ((e : Int) == 0) = false := by simp; omega
    have HT := Lib.hid hT
    clear hT hl hr
    go_enter Try.func68, Try.ntmps68
    go_wp2_with fail
    refine hcall2.out.mono ?_
    rintro e w' ⟨rfl, rfl⟩
    go_wp2
    go_ret3
    exact givesTexts_err HT.out (Below.refl _ _)

end Go.Proofs.Ytaljojjpgkmiiaa

namespace Go.Proofs.Ytaljojjpgkmiiaa
open Go.RowKit

def siCells : List SIt → List Value
  | [] => []
  | r :: l => .int .i64 r.n :: .string r.b :: siCells l
/-- a pair as an argument or an answer -/
def siagg (r : SIt) : Value := .agg #[.int .i64 r.n, .string r.b]
theorem siCells_len (l : List SIt) : (siCells l).length = l.length * 2 := by
  induction l with
  | nil => rfl
  | cons v l ih => simp only [siCells, List.length_cons, ih]; omega
theorem siCells_app (a b : List SIt) : siCells (a ++ b) = siCells a ++ siCells b := by
  induction a with
  | nil => rfl
  | cons v l ih => simp [siCells, ih]
theorem siCells_one (l : List SIt) : ∀ u ∈ siCells l, u.oneCell' = true := by
  induction l with
  | nil => intro u hu; simp [siCells] at hu
  | cons v l ih =>
    intro u hu
    simp only [siCells, List.mem_cons] at hu
    rcases hu with rfl | rfl | h
    · rfl
    · rfl
    · exact ih u h
theorem siCells_at : ∀ (l : List SIt) (i : Nat) (p : SIt), l[i]? = some p → (siCells l)[i * 2]? = some (.int .i64 p.n) ∧ (siCells l)[i * 2 + 1]? = some (.string p.b)
  | [], i, v, h => by simp at h
  | w :: l, 0, v, h => by
    simp at h
    subst h
    exact ⟨rfl, rfl⟩
  | w :: l, i + 1, v, h => by
    have ih := siCells_at l i v (by simpa using h)
    rw [show (i + 1) * 2 = i * 2 + 1 + 1 from by omega]
    simpa [siCells] using ih
theorem siCells_drop : ∀ (l : List SIt) (k : Nat), (siCells l).drop (k * 2) = siCells (l.drop k)
  | [], k => by simp [siCells]
  | c :: l, 0 => by simp
  | c :: l, k + 1 => by
    rw [show (k + 1) * 2 = k * 2 + 1 + 1 from by omega]
    simpa [siCells] using siCells_drop l k
theorem siCells_take : ∀ (l : List SIt) (k : Nat), (siCells l).take (k * 2) = siCells (l.take k)
  | [], k => by simp [siCells]
  | c :: l, 0 => by simp [siCells]
  | c :: l, k + 1 => by
    rw [show (k + 1) * 2 = k * 2 + 1 + 1 from by omega]
    simpa [siCells] using siCells_take l k
theorem si_step (a : Addr) (p j : Nat) (hj : 0 < j) : a.add (p + j) = ⟨(a.add p).block, (a.add p).off + j, none⟩ := by
  rw [← addr_add]
  generalize a.add p = b
  unfold Addr.add
  rw [if_neg (by omega)]
/-- The slice value with address A and length n holds the numbered texts l. -/
def HasSis (w : World) (B : Nat) (A : Option Addr) (n : Nat) (l : List SIt) : Prop := l.length = n ∧ Has w B A (n * 2) (siCells l)
section
variable {w w' : World} {B B' n : Nat} {A : Option Addr} {l : List SIt}
theorem HasSis.nil (w : World) (B : Nat) (A : Option Addr) : HasSis w B A 0 [] := ⟨rfl, Has.nil _ _ _⟩
/-- element i, its cells spelled as the walk spells them -/
theorem HasSis.at_ (h : HasSis w B A n l) {i : Nat} (hi : i < n) : ∃ a v, A = some a ∧ a.block < B ∧ l[i]? = some v ∧ w.cell? (a.add (i * 2)) = some (.int .i64 v.n) ∧
    w.cell? ⟨(a.add (i * 2)).block, (a.add (i * 2)).off + 1, none⟩ = some (.string v.b) := by
  obtain ⟨hl, hh⟩ := h
  have hil : i < l.length := by omega
  obtain ⟨c0, c1⟩ := siCells_at l i l[i] (List.getElem?_eq_getElem hil)
  obtain ⟨a, rfl, hb, hc⟩ := hh.all (by omega)
  refine ⟨a, _, rfl, hb, List.getElem?_eq_getElem hil, hc _ _ c0, ?_⟩
  rw [← si_step a _ 1 (by omega)]
  exact hc _ _ c1
theorem HasSis.more (h : HasSis w B A n l) (hB : B ≤ B') : HasSis w B' A n l := ⟨h.1, h.2.more hB⟩
theorem HasSis.below (h : HasSis w B A n l) (hb : Below B w w') : HasSis w' B A n l := ⟨h.1, h.2.below hb⟩
theorem HasSis.belowOf (h : HasSis w B A n l) {C : Nat} (hb : Below C w w') (hC : B ≤ C) : HasSis w' B A n l := ⟨h.1, h.2.belowOf hb hC⟩
theorem HasSis.alloc (h : HasSis w B A n l) (hB : B ≤ w.heap.size) (o : Obj) : HasSis (w.alloc o) B A n l := ⟨h.1, h.2.alloc hB o⟩
theorem HasSis.keep (h : HasSis w B A n l) (hk : ∀ p : Addr, p.block < B → w'.cell? p = w.cell? p) : HasSis w' B A n l := ⟨h.1, h.2.keep hk⟩
theorem HasSis.none_ (h : HasSis w B none n l) : l = [] ∧ n = 0 := by
  rcases Nat.eq_zero_or_pos n with h0 | h0
  · exact ⟨List.eq_nil_of_length_eq_zero (by rw [h.1, h0]), h0⟩
  · obtain ⟨a, e, -⟩ := h.2.all (by omega); cases e
end

theorem si_elem : ElemN Try.prog 105 2 24 (.agg #[.int .i64 0, .string ⟨#[]⟩]) := ⟨by kernel_rfl, rfl⟩

/-- a row of numbered texts that the call owns -/
def OwnSis (w : World) (B : Nat) (v : Value) (l : List SIt) : Prop := w.ownsRow B 105 2 v l.length (siCells l)
theorem OwnSis.slice {w : World} {B : Nat} {v : Value} {l : List SIt} (h : OwnSis w B v l) : ∃ A c, v = .slice A l.length c ∧ l.length ≤ c ∧ c ≤ maxLen ∧ HasSis w w.heap.size A l.length l := by
  obtain ⟨A, c, e, h1, h2, h3⟩ := own_sliceN h
  exact ⟨A, c, e, h1, h2, rfl, h3⟩
theorem OwnSis.nil (w : World) (B : Nat) : OwnSis w B (.slice none 0 0) [] := World.ownsRow_nil _ _ _ _
theorem OwnSis.below {w w' : World} {B : Nat} {v : Value} {l : List SIt} (h : OwnSis w B v l) (hb : Below w.heap.size w w') : OwnSis w' B v l := own_belowN h hb
/-- What is handed back is a row of the call's own, from block B on, that holds the numbered texts l; below B nothing has turned. -/
def GivesSi (B : Nat) (l : List SIt) (w : World) (e : Ending) (w' : World) : Prop := ∃ v', e = .returned v' ∧ OwnSis w' B v' l ∧ Below B w w'
theorem si_lit (w : World) (c : SIt) : Has (w.alloc (.cells #[.int .i64 c.n, .string c.b] 105)) (w.heap.size + 1) (some ⟨w.heap.size, 0, none⟩) (1 * 2) (siCells [c]) :=
  Has.lit w #[.int .i64 c.n, .string c.b] 105

end Go.Proofs.Ytaljojjpgkmiiaa

namespace Go.Proofs.Ytaljojjpgkmiiaa
open Go.RowKit
open Go.Lib (strCells)

/-! ### Join -/
def Parts (w : World) (B : Nat) (A : Option Addr) (n : Nat) (vs : List Value) (ps : List (List UInt8)) : Prop :=
  Has w B A n vs ∧ vs.length = ps.length ∧ ∀ k, k < ps.length → ∃ A' n' c', vs[k]? = some (.slice A' n' c') ∧ HasBytes w B A' n' (ps.getD k [])

def flat : List (List UInt8) → List UInt8
  | [] => []
  | p :: r => p ++ flat r
theorem flat_app (a b : List (List UInt8)) : flat (a ++ b) = flat a ++ flat b := by
  induction a with
  | nil => rfl
  | cons x a ih => simp [flat, ih]
theorem flat_succ {ps : List (List UInt8)} {k : Nat} (h : k < ps.length) : flat (ps.take (k + 1)) = flat (ps.take k) ++ ps.getD k [] := by
  rw [List.take_succ_eq_append_getElem h, flat_app]
  simp [flat, h]
theorem flat_le (ps : List (List UInt8)) (k : Nat) : (flat (ps.take k)).length ≤ (flat ps).length := by
  have h := List.take_append_drop k ps
  have : flat ps = flat (ps.take k) ++ flat (ps.drop k) := by rw [← flat_app, h]
  rw [this, List.length_append]
  omega

set_option maxRecDepth 100000 in
set_option maxHeartbeats 800000 in
theorem join_any (A : Option Addr) (n c C : Nat) (vs : List Value) (ps : List (List UInt8)) (w : World) (h : Parts w C A n vs ps) (hC : C ≤ w.heap.size) (hs : (flat ps).length ≤ 100000000) (hn : n ≤ 1000000) :
    Calls Try.prog 64 #[.slice A n c] w (Gives w.heap.size (flat ps).length (byteCells (flat ps)) w) := by
  obtain ⟨hv, hvl, hp⟩ := h
  have Hl : Hid (ps.length = n) := Lib.hid (by rw [← hvl]; exact hv.1)
  have Hp := Lib.hid hp
  clear hvl hp
  go_enter Try.func64, Try.ntmps64
  go_wp2
  go_loopw [3, 5, 8] (fun v _ i wr => ∃ k : Nat, k ≤ n ∧ i = .int .i64 (k : Int) ∧ wr.ownsRow w.heap.size 5 1 v (flat (ps.take k)).length (byteCells (flat (ps.take k))) ∧ Below w.heap.size w wr) (fun _ _ i _ => n - (intOf i).toNat)
  case atStart => exact ⟨0, by omega, rfl, World.ownsRow_nil _ _ _ _, Below.refl _ _⟩
  case round =>
    obtain ⟨k, hk, rfl, hown', hb⟩ := hrel
    have hBr : w.heap.size ≤ wr.heap.size := hb.size
    have hle := flat_le ps k
    by_cases hlt : k < n
    · obtain ⟨a, rfl, hab, hc0⟩ := hv.cell hlt
      obtain ⟨A', n', c', hvk, hpk⟩ := Hp.out k (by have := Hl.out; omega)
      have hc : wr.cell? (a.add k) = some (.slice A' n' c') := by
        rw [hb.cell (by rw [addr_block]; omega), hc0]
        simp [hvk]
      have hle2 := flat_le ps (k + 1)
      have hs0 := flat_succ (ps := ps) (k := k) (by have := Hl.out; omega)
      have hle3 : (flat (ps.take k)).length + n' ≤ 100000000 := by
        rw [hs0, List.length_append, hpk.len] at hle2
        omega
      have Hpk := Lib.hid (hpk.belowOf hb hC)
      have Hlen := Lib.hid hpk.len
      have Hs := Lib.hid hs0
      have Hown' := Lib.hid hown'
      have Hb := Lib.hid hb
      clear hc0 hvk hpk hs0 hle2 hown' hb
      go_wp2_with (at_builtin; refine wpList_append_has rfl (.tmp 12) (.tmp 13) _ rfl 5 u8_elem Try.underlying76 rfl Hown'.out rfl Hpk.out (byteCells_one _) (by simp only [maxLen]; omega) (by omega) hBr ?_; intro v3 w3 hown3 hg3 _)
      have Hb3 := Lib.hid (below_own Hb.out Hown'.out hg3 hBr)
      go_roundw
      case rel =>
        refine ⟨k + 1, by omega, by go_num, ?_, Hb3.out⟩
        rw [Hs.out, byteCells_app, List.length_append, Hlen.out]
        exact hown3
      case measure => simp [intOf]; omega
    · go_wp2
      go_ret
      have e1 : ps.take k = ps := List.take_of_length_le (by have := Hl.out; omega)
      rw [e1] at hown'
      exact ret_own rfl hown' rfl rfl hb

end Go.Proofs.Ytaljojjpgkmiiaa

namespace Go.Proofs.Ytaljojjpgkmiiaa
open Go.RowKit
open Go.Lib (strCells)

/-- slice values, each with the bytes that it has -/
abbrev Pvs := List (Value × List UInt8)
def pvCells (rs : Pvs) : List Value := rs.map (·.1)
/-- a row of rows of bytes that the call owns, from block B on: the rows too -/
structure OwnPv (w : World) (B : Nat) (v : Value) (rs : Pvs) : Prop where
  own : w.ownsRow B 76 1 v rs.length (pvCells rs)
  rows : ∀ r ∈ rs, w.ownsRow B 5 1 r.1 r.2.length (byteCells r.2)
theorem pv_elem : ElemN Try.prog 76 1 24 (.slice none 0 0) := ⟨by kernel_rfl, rfl⟩
theorem own_typeP {w : World} {B m size : Nat} {e : TypeId} {v : Value} {xs : List Value} (h : w.ownsRow B e size v m xs) {g : Nat} (hg : v.ownBlock = some g) : ∃ cur : Array Value, w.heap[g]? = some (Obj.cells cur e (0, 0)) := by
  rcases h.2 with ⟨rfl, _⟩ | ⟨g', cap, cur, rfl, hB, hh, rest⟩
  · cases hg
  · cases hg; exact ⟨cur, hh⟩
theorem own_keepP {w w' : World} {B m size : Nat} {e : TypeId} {v : Value} {xs : List Value} (h : w.ownsRow B e size v m xs) (hk : ∀ g, v.ownBlock = some g → w'.heap[g]? = w.heap[g]?) : w'.ownsRow B e size v m xs := by
  refine ⟨h.1, ?_⟩
  rcases h.2 with hn | ⟨g, cap, cur, rfl, hB, hg, rest⟩
  · exact .inl hn
  · exact .inr ⟨g, cap, cur, rfl, hB, (hk g rfl).trans hg, rest⟩
/-- a row stays where a row of another element type has grown -/
theorem own_otherP {w w' : World} {B B' m m' size size' : Nat} {e e' : TypeId} {v v' : Value} {xs xs' : List Value} (hg : w.grownBy w' v.ownBlock) (h : w.ownsRow B e size v m xs) (h' : w.ownsRow B' e' size' v' m' xs') (hne : e ≠ e') : w'.ownsRow B' e' size' v' m' xs' :=
  own_keepP h' fun g hgx => by
    obtain ⟨cur, hc⟩ := own_typeP h' hgx
    refine hg.block g (Array.getElem?_eq_some_iff.1 hc).1 fun e0 => ?_
    obtain ⟨cur', hc'⟩ := own_typeP h e0.symm
    rw [hc] at hc'
    injection hc' with hc'
    injection hc' with _ ht _
    exact hne ht.symm
theorem OwnPv.below {w w' : World} {B : Nat} {v : Value} {rs : Pvs} (h : OwnPv w B v rs) (hb : Below w.heap.size w w') : OwnPv w' B v rs :=
  ⟨own_belowN h.own hb, fun r hr => own_belowN (h.rows r hr) hb⟩
theorem grown_bel {w w' : World} (h : Below w.heap.size w w') (r : Option Nat) : w.grownBy w' r := ⟨h.os, h.tape, h.output, h.size, fun k hk _ => h.block k hk⟩
theorem below_thn {B : Nat} {w w1 w2 : World} (h : Below B w w1) (k : Below w1.heap.size w1 w2) (hB : B ≤ w1.heap.size) : Below B w w2 := h.trans (k.mono hB)
theorem OwnPv.snoc {w w' : World} {B : Nat} {v v' : Value} {rs qs : Pvs} (h : OwnPv w B v rs) (hq : ∀ q ∈ qs, w.ownsRow B 5 1 q.1 q.2.length (byteCells q.2)) (h' : w'.ownsRow B 76 1 v' (rs.length + qs.length) (pvCells rs ++ pvCells qs)) (hg : w.grownBy w' v.ownBlock) : OwnPv w' B v' (rs ++ qs) := by
  refine ⟨by rw [List.length_append]; unfold pvCells at h' ⊢; rw [List.map_append]; exact h', fun r hr => ?_⟩
  rcases List.mem_append.1 hr with hr | hr
  · exact own_otherP hg h.own (h.rows r hr) (by decide)
  · exact own_otherP hg h.own (hq r hr) (by decide)
end Go.Proofs.Ytaljojjpgkmiiaa

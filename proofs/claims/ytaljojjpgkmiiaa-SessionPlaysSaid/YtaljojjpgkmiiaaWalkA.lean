/- pack.GetNum at a place within the bytes gives the number, the place behind it and the error that the readers of the plain text (SpecPack) give. Condition: the bytes are in memory and fewer than 2^63. -/
import Derived.Test.YtaljojjpgkmiiaaRows
import Derived.Test.YtaljojjpgkmiiaaOwn
import Derived.Test.YtaljojjpgkmiiaaSpecPack
import Derived.WalkKit
import Derived.WalkSpells
import Derived.Lib.Hide
import Derived.IntWalk
import Derived.BigQuiet
import Derived.Deep.QuietTactic
namespace Go.Proofs.Ytaljojjpgkmiiaa
open Go.RowKit
open Go.Lib (strCells)

theorem top_bit : ∀ c : Fin 256, bits .and .u8 ((c.val : Nat) : Int) 128 = if 128 ≤ c.val then 128 else 0 := by decide +kernel
theorem low_bits : ∀ c : Fin 256, bits .and .u8 ((c.val : Nat) : Int) 127 = ((c.val % 128 : Nat) : Int) := by decide +kernel
theorem top_on (c : UInt8) (h : 128 ≤ c.toNat) : bits .and .u8 (c.toNat : Int) 128 = 128 := by
  have := top_bit ⟨c.toNat, c.toNat_lt⟩
  simpa [h] using this
theorem top_off (c : UInt8) (h : c.toNat < 128) : bits .and .u8 (c.toNat : Int) 128 = 0 := by
  have := top_bit ⟨c.toNat, c.toNat_lt⟩
  simpa [show ¬ 128 ≤ c.toNat from by omega] using this
theorem low_of (c : UInt8) : bits .and .u8 (c.toNat : Int) 127 = ((c.toNat % 128 : Nat) : Int) := low_bits ⟨c.toNat, c.toNat_lt⟩

theorem or_small (a b : Nat) (ha : a < 9223372036854775808) (hb : b < 9223372036854775808) : bits .or .i64 (a : Int) (b : Int) = ((a ||| b : Nat) : Int) := by
  have h63 : (9223372036854775808 : Nat) = 2 ^ 63 := by decide
  have hab : a ||| b < 2 ^ 63 := Nat.or_lt_two_pow (by omega) (by omega)
  have e1 : (BitVec.ofInt 64 (a : Int)).toNat = a := by
    rw [BitVec.ofInt_natCast, BitVec.toNat_ofNat]
    exact Nat.mod_eq_of_lt (by omega)
  have e2 : (BitVec.ofInt 64 (b : Int)).toNat = b := by
    rw [BitVec.ofInt_natCast, BitVec.toNat_ofNat]
    exact Nat.mod_eq_of_lt (by omega)
  have e3 : bits .or .i64 (a : Int) (b : Int) = IntKind.i64.wrap (((BitVec.ofInt 64 (a : Int) ||| BitVec.ofInt 64 (b : Int)).toNat : Nat) : Int) := rfl
  rw [e3, BitVec.toNat_or, e1, e2, IntKind.wrap_i64]
  omega
theorem pow_seven (k : Nat) : (2 : Nat) ^ (7 * k) = 128 ^ k := by rw [Nat.pow_mul]
theorem pow_seven_le {k : Nat} (h : k ≤ 8) : (128 : Nat) ^ k ≤ 72057594037927936 := by
  have : (128 : Nat) ^ k ≤ 128 ^ 8 := Nat.pow_le_pow_right (by omega) h
  omega
/-- n |= int(c) << (7*k), where n is below 128^k -/
theorem or_shift {X c k : Nat} (hX : X < 128 ^ k) (hk : k ≤ 8) (hc : c < 128) : bits .or .i64 (X : Int) (wrap64 ((c : Int) * 2 ^ (7 * k))) = ((X + 128 ^ k * c : Nat) : Int) := by
  have hp := pow_seven_le hk
  have hcp : c * 128 ^ k ≤ 127 * 72057594037927936 := Nat.mul_le_mul (by omega) hp
  have e : ((c : Int) * 2 ^ (7 * k)) = ((c * 128 ^ k : Nat) : Int) := by
    rw [Int.natCast_mul, ← pow_seven, Int.natCast_pow]
    rfl
  rw [e, IntWalk.wrap64_in _ (by constructor <;> omega), or_small _ _ (by omega) (by omega)]
  congr 1
  have := Nat.two_pow_add_eq_or_of_lt (i := 7 * k) (b := X) (by rw [pow_seven]; exact hX) c
  rw [pow_seven] at this
  rw [Nat.mul_comm c, Nat.or_comm, ← this, Nat.add_comm]
theorem pow_step {X c k : Nat} (hX : X < 128 ^ k) (hc : c < 128) : X + 128 ^ k * c < 128 ^ (k + 1) := by
  rw [Nat.pow_succ]
  have : 128 ^ k * c + 128 ^ k ≤ 128 ^ k * 128 := by
    rw [← Nat.mul_succ]
    exact Nat.mul_le_mul_left _ (by omega)
  omega
theorem getNumAt_ok {l b : List UInt8} {p k X x u : Nat} {c : List UInt8} (hb : l.drop p = b) (hj : joinNum 0 0 (readNum 0 b) = joinNum k X (readNum k c)) (hr : joinNum k X (readNum k c) = (x, u, 0)) : getNumAt l p = (x, p + u, 0) := by
  rw [← readNum_start, hr, ← hb] at hj
  simpa using getNumAt_of hj
theorem getNumAt_err {l b : List UInt8} {p k X e : Nat} {c : List UInt8} (hb : l.drop p = b) (hj : joinNum 0 0 (readNum 0 b) = joinNum k X (readNum k c)) (hr : joinNum k X (readNum k c) = (0, 0, e)) (he : e ≠ 0) : getNumAt l p = (0, 0, e) := by
  rw [← readNum_start, hr, ← hb] at hj
  simpa [he] using getNumAt_of hj
theorem ret3_of {a b c a' b' c' : Int} (h1 : a = a') (h2 : b = b') (h3 : c = c') : Ending.returned (.tuple #[.int .i64 a, .int .i64 b, .int .i64 c]) = .returned (.tuple #[.int .i64 a', .int .i64 b', .int .i64 c']) := by rw [h1, h2, h3]

set_option maxHeartbeats 400000 in
theorem getNum_in (A : Option Addr) (n c p B : Nat) (l : List UInt8) (w : World) (h : HasBytes w B A n l) (hp : p ≤ n) (hn : n ≤ maxLen) (hnc : n ≤ c) :
    Calls Try.prog 67 #[.slice A n c, .int .i64 (p : Int)] w fun e w' =>
      e = .returned (.tuple #[.int .i64 ((getNumAt l p).1 : Int), .int .i64 ((getNumAt l p).2.1 : Int), .int .i64 ((getNumAt l p).2.2 : Int)]) ∧ w = w' := by
  unfold maxLen at hn
  have hcut : HasBytes w B (if c = p then A else A.map (·.add p)) (n - p) (l.drop p) := h.part hp hnc
  obtain ⟨A', hA⟩ : ∃ A', (if c = p then A else A.map (·.add p)) = A' := ⟨_, rfl⟩
  rw [hA] at hcut
  clear h
  obtain ⟨b, hb⟩ : ∃ b, l.drop p = b := ⟨_, rfl⟩
  rw [hb] at hcut
  have Hb := Lib.hid hb
  have Hbl := Lib.hid hcut.len
  clear hb
  have hfst : ¬ (p : Int) < 0 := by omega
  go_enter Try.func67, Try.ntmps67
  go_wp2
  go_loop [4, 7, 8, 9, 22] (fun x _ _ _ i => ∃ (k X : Nat), k ≤ n - p ∧ k ≤ 8 ∧ X < 128 ^ k ∧ i = .int .i64 k ∧ x = .int .i64 X ∧ joinNum 0 0 (readNum 0 b) = joinNum k X (readNum k (b.drop k))) (fun _ _ _ _ i => (n - p) - (intOf i).toNat)
  case atStart => exact ⟨0, 0, by omega, by omega, by omega, rfl, rfl, rfl⟩
  case round =>
    obtain ⟨k, X, hk, hk8, hX, rfl, rfl, hj⟩ := hrel
    have Hj := Lib.hid hj
    clear hj
    by_cases hlt : k < n - p
    · obtain ⟨a, rfl, _, hc⟩ := hcut.byte hlt
      have Hd : Hid (b.drop k = b[k]?.getD 0 :: b.drop (k + 1)) := Lib.hid (drop_at (by have := Hbl.out; omega))
      have hlow := low_of (b[k]?.getD 0)
      have hlt256 := (b[k]?.getD 0).toNat_lt
      by_cases hc128 : 128 ≤ (b[k]?.getD 0).toNat
      · have htop := top_on _ hc128
        by_cases hk8' : k = 8
        · have hk8i : ((k : Int) == 8) = true := by simp; omega
          have Hv := Lib.hid (getNumAt_err Hb.out Hj.out (by rw [Hd.out]; exact readNum_form (.inl ⟨hc128, hk8'⟩)) (by decide))
          clear hk8'
          go_wp2
          go_ret3
          rw [Hv.out]
          exact ⟨rfl, rfl⟩
        · have hk8i : ((k : Int) == 8) = false := by simp; omega
          go_wp2
          go_round
          case rel =>
            refine ⟨k + 1, X + 128 ^ k * ((b[k]?.getD 0).toNat % 128), by omega, by omega, pow_step hX (by omega), by go_num, ?_, ?_⟩
            · have := or_shift hX hk8 (c := (b[k]?.getD 0).toNat % 128) (by omega)
              rw [← this]
              rfl
            · rw [Hj.out, Hd.out]
              exact readNum_more hk8' hc128
          case measure => simp [intOf]; omega
      · have htop := top_off _ (by omega : (b[k]?.getD 0).toNat < 128)
        by_cases hz : (b[k]?.getD 0).toNat = 0 ∧ 0 < k
        · have hzi : (((b[k]?.getD 0).toNat : Int) == 0) = true := by simp; omega
          have hk0 : 0 < k := hz.2
          have Hv := Lib.hid (getNumAt_err Hb.out Hj.out (by rw [Hd.out]; exact readNum_form (.inr hz)) (by decide))
          clear hz
          go_wp2
          go_ret3
          rw [Hv.out]
          exact ⟨rfl, rfl⟩
        · have Hv := Lib.hid (getNumAt_ok Hb.out Hj.out (by rw [Hd.out]; exact readNum_last hz (by omega)))
          have Ho : Hid (bits .or .i64 (X : Int) (wrap64 (((b[k]?.getD 0).toNat : Int) % 128 * 2 ^ (7 * k))) = ((X + 128 ^ k * (b[k]?.getD 0).toNat : Nat) : Int)) := by
            have := or_shift hX hk8 (c := (b[k]?.getD 0).toNat % 128) (by omega)
            rw [show (b[k]?.getD 0).toNat % 128 = (b[k]?.getD 0).toNat from by omega] at this
            rw [show ((b[k]?.getD 0).toNat : Int) % 128 = ((b[k]?.getD 0).toNat : Int) from by omega]
            exact this
          have hzk : ¬ (0 < k) ∨ ¬ (b[k]?.getD 0).toNat = 0 := by omega
          clear hz
          rcases hzk with hzk | hzk
          · go_wp2
            go_ret3
            rw [Hv.out]
            exact ⟨ret3_of Ho.out (by simp; omega) rfl, rfl⟩
          · have hzi : (((b[k]?.getD 0).toNat : Int) == 0) = false := by simp; omega
            by_cases hk0 : 0 < k
            · go_wp2
              go_ret3
              rw [Hv.out]
              exact ⟨ret3_of Ho.out (by simp; omega) rfl, rfl⟩
            · go_wp2
              go_ret3
              rw [Hv.out]
              exact ⟨ret3_of Ho.out (by simp; omega) rfl, rfl⟩
    · have Hv := Lib.hid (getNumAt_err Hb.out Hj.out (by rw [List.drop_eq_nil_of_le (by have := Hbl.out; omega)]; exact readNum_nil k X) (by decide))
      go_wp2
      go_ret3
      rw [Hv.out]
      exact ⟨rfl, rfl⟩

end Go.Proofs.Ytaljojjpgkmiiaa

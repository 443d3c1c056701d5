/- sum.divide, sum.More and sum.Of give what the plain text (SpecSum) gives. Condition: the bytes are in memory. -/
import Derived.Test.YtghcmlipbmmfjaaOwn
import Derived.Test.YtghcmlipbmmfjaaSpecSum
import Derived.WalkKit
import Derived.WalkSpells
import Derived.Lib.Hide
import Derived.IntWalk
import Derived.BigQuiet
import Derived.Deep.QuietTactic
import Derived.Laws.BitsAllLaws
namespace Go.Proofs.Ytghcmlipbmmfjaa
open Go.RowKit
open Go.Lib (strCells)

theorem ret_u32 {a b : Int} (h : a = b) : Ending.returned (.int .u32 a) = .returned (.int .u32 b) := by rw [h]

theorem u32_step {m : Nat} (hm : m < 4294967296) :
    bits .xor .u32 ((m : Int) / 2) (bits .and .u32 3988292384 (-bits .and .u32 (m : Int) 1 % 4294967296)) = (sumStep m : Int) := by
  have h1 : bits .and .u32 (m : Int) 1 = ((m &&& 1 : Nat) : Int) := u32_and_nat m 1 hm (by omega)
  have e : (m : Int) / 2 = ((m / 2 : Nat) : Int) := by omega
  rw [h1, Nat.and_one_is_mod, e]
  unfold sumStep
  by_cases h : m % 2 = 1
  · have e2 : (-((m % 2 : Nat) : Int) % 4294967296) = ((4294967295 : Nat) : Int) := by rw [h]; rfl
    have h3 : bits .and .u32 3988292384 ((4294967295 : Nat) : Int) = ((3988292384 : Nat) : Int) := u32_and_nat 3988292384 4294967295 (by omega) (by omega)
    rw [e2, h3, if_pos h]
    exact u32_xor_nat (m / 2) 3988292384 (by omega) (by omega)
  · have h0 : m % 2 = 0 := by omega
    have e2 : (-((m % 2 : Nat) : Int) % 4294967296) = ((0 : Nat) : Int) := by rw [h0]; rfl
    have h3 : bits .and .u32 3988292384 ((0 : Nat) : Int) = ((0 : Nat) : Int) := u32_and_nat 3988292384 0 (by omega) (by omega)
    rw [e2, h3, if_neg h, u32_xor_nat (m / 2) 0 (by omega) (by omega), Nat.xor_zero]

theorem divide_any (n : Nat) (w : World) (hn : n < 4294967296) :
    Calls Try.prog 43 #[.int .u32 (n : Int)] w fun e w' => e = .returned (.int .u32 (sumSteps 8 n : Int)) ∧ w = w' := by
  go_enter Try.func43, Try.ntmps43
  go_wp2
  go_loop [0, 3] (fun c i => ∃ (k m : Nat), k ≤ 8 ∧ m < 4294967296 ∧ c = .int .u32 (m : Int) ∧ i = .int .i64 (k : Int) ∧ sumSteps 8 n = sumSteps (8 - k) m) (fun _ i => 8 - (intOf i).toNat)
  case atStart => exact ⟨0, n, by omega, hn, rfl, rfl, rfl⟩
  case round =>
    obtain ⟨k, m, hk, hm, rfl, rfl, hj⟩ := hrel
    have Hj := Lib.hid hj
    clear hj
    by_cases hlt : k < 8
    · go_wp2
      go_round
      case rel =>
        refine ⟨k + 1, sumStep m, by omega, sumStep_lt hm, by rw [u32_step hm], by go_num, ?_⟩
        rw [Hj.out, show 8 - k = (8 - (k + 1)) + 1 from by omega]
        rfl
      case measure => simp [intOf]; omega
    · obtain rfl : k = 8 := by omega
      go_wp2
      go_ret
      rw [Hj.out]
      exact ⟨rfl, rfl⟩

theorem flip_nat {n : Nat} (h : n < 4294967296) : n ^^^ 4294967295 = 4294967295 - n := by
  have e := congrArg BitVec.toNat (BitVec.xor_allOnes (x := BitVec.ofNat 32 n))
  rw [BitVec.toNat_xor, BitVec.toNat_not, BitVec.toNat_allOnes, BitVec.toNat_ofNat, Nat.mod_eq_of_lt h] at e
  exact e
theorem u32_flip {n : Nat} (h : n < 4294967296) : bits .xor .u32 IntKind.u32.max (n : Int) = ((4294967295 - n : Nat) : Int) := by
  have := u32_xor_nat 4294967295 n (by omega) h
  rw [Nat.xor_comm, flip_nat h] at this
  exact this
theorem byte_u32 (b : UInt8) : (b.toNat : Int) % 4294967296 = (b.toNat : Int) := by have := b.toNat_lt; omega
theorem u32_in (m : Nat) (b : UInt8) (hm : m < 4294967296) : bits .xor .u32 (m : Int) ((b.toNat : Int) % 4294967296) = ((m ^^^ b.toNat : Nat) : Int) := by
  have := b.toNat_lt
  rw [byte_u32]
  exact u32_xor_nat m b.toNat hm (by omega)
theorem divide_byte (m : Nat) (b : UInt8) (w : World) (hm : m < 4294967296) :
    Calls Try.prog 43 #[.int .u32 (bits .xor .u32 (m : Int) ((b.toNat : Int) % 4294967296))] w fun e w' => e = .returned (.int .u32 (sumSteps 8 (m ^^^ b.toNat) : Int)) ∧ w = w' := by
  rw [u32_in m b hm]
  exact divide_any _ w (xor_byte_lt hm b)
set_option maxHeartbeats 400000 in
theorem more_any (A : Option Addr) (n c B s : Nat) (l : List UInt8) (w : World) (h : HasBytes w B A n l) (hn : n ≤ maxLen) (hs : s < 4294967296) :
    Calls Try.prog 41 #[.int .u32 (s : Int), .slice A n c] w fun e w' => e = .returned (.int .u32 (sumMore s l : Int)) ∧ w = w' := by
  unfold maxLen at hn
  have Hl := Lib.hid h.len
  have H := Lib.hid h
  clear h
  go_enter Try.func41, Try.ntmps41
  go_wp2
  go_loop [5, 12] (fun c i => ∃ (k m : Nat), k ≤ n ∧ m < 4294967296 ∧ c = .int .u32 (m : Int) ∧ i = .int .i64 (k : Int) ∧ m = sumRest (4294967295 - s) (l.take k)) (fun _ i => n - (intOf i).toNat)
  case atStart => exact ⟨0, 4294967295 - s, by omega, by omega, by rw [u32_flip hs], rfl, rfl⟩
  case round =>
    obtain ⟨k, m, hk, hm, rfl, rfl, hj⟩ := hrel
    have Hj := Lib.hid hj
    clear hj
    by_cases hlt : k < n
    · obtain ⟨a, rfl, _, hc⟩ := H.out.byte hlt
      have Hs : Hid (sumSteps 8 (m ^^^ (l[k]?.getD 0).toNat) = sumRest (4294967295 - s) (l.take (k + 1))) :=
        Lib.hid (by rw [take_snoc (by have := Hl.out; omega), sumRest_snoc, ← Hj.out])
      have hmm := sumSteps_lt (k := 8) (xor_byte_lt hm (l[k]?.getD 0))
      go_wp2_with fail
      refine (divide_byte m (l[k]?.getD 0) w hm).mono ?_
      rintro e w' ⟨rfl, rfl⟩
      go_wp2
      go_round
      case rel => exact ⟨k + 1, _, by omega, hmm, rfl, by go_num, Hs.out⟩
      case measure => simp [intOf]; omega
    · obtain rfl : k = n := by omega
      have e : l.take k = l := List.take_of_length_le (by have := Hl.out; omega)
      have Hv : Hid (bits .xor .u32 IntKind.u32.max (m : Int) = (sumMore s l : Int)) := Lib.hid (by rw [u32_flip hm, Hj.out, e]; rfl)
      clear e
      go_wp2
      go_ret
      exact ⟨ret_u32 Hv.out, rfl⟩

theorem of_any (A : Option Addr) (n c B : Nat) (l : List UInt8) (w : World) (h : HasBytes w B A n l) (hn : n ≤ maxLen) :
    Calls Try.prog 42 #[.slice A n c] w fun e w' => e = .returned (.int .u32 (sumOf l : Int)) ∧ w = w' := by
  have H := Lib.hid h
  clear h
  go_enter Try.func42, Try.ntmps42
  go_wp2_with fail
  refine (more_any A n c B 0 l w H.out hn (by omega)).mono ?_
  rintro e w' ⟨rfl, rfl⟩
  go_wp2
  go_ret
  exact ⟨rfl, rfl⟩

end Go.Proofs.Ytghcmlipbmmfjaa

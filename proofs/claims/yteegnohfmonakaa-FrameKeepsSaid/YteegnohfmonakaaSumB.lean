/- The document's More and Of of layer 2 give what the plain text (SpecSum) gives. Condition: the bytes are in memory. -/
import Derived.Test.YteegnohfmonakaaSumA
import Derived.Lib.SlBytesConst
namespace Go.Proofs.Yteegnohfmonakaa
open Go.RowKit
open Go.Lib (strCells)

theorem u32_flip' {n : Nat} (h : n < 4294967296) : bits .xor .u32 (n : Int) 4294967295 = ((4294967295 - n : Nat) : Int) := by
  have := u32_xor_nat n 4294967295 h (by omega)
  rw [flip_nat h] at this
  exact this
theorem u32_odd {m : Nat} (hm : m < 4294967296) (h : m % 2 = 1) : bits .xor .u32 ((m : Int) / 2) 3988292384 = (sumStep m : Int) := by
  have := u32_xor_nat (m / 2) 3988292384 (by omega) (by omega)
  unfold sumStep
  rw [if_pos h, ← this]
  rfl

set_option maxHeartbeats 800000 in
theorem refMore_any (A : Option Addr) (n c B s : Nat) (l : List UInt8) (w : World) (h : HasBytes w B A n l) (hn : n ≤ maxLen) (hs : s < 4294967296) :
    Calls Try.prog 24 #[.int .u32 (s : Int), .slice A n c] w fun e w' => e = .returned (.int .u32 (sumMore s l : Int)) ∧ w = w' := by
  unfold maxLen at hn
  have Hl := Lib.hid h.len
  have H := Lib.hid h
  clear h
  go_enter Try.func24, Try.ntmps24
  go_wp2
  go_loop [5, 6] (fun c i => ∃ (k m : Nat), k ≤ n ∧ m < 4294967296 ∧ c = .int .u32 (m : Int) ∧ i = .int .i64 (k : Int) ∧ m = sumRest (4294967295 - s) (l.take k)) (fun _ i => n - (intOf i).toNat)
  case atStart => exact ⟨0, 4294967295 - s, by omega, by omega, by rw [u32_flip' hs], rfl, rfl⟩
  case round =>
    obtain ⟨k, m, hk, hm, rfl, rfl, hj⟩ := hrel
    have Hj := Lib.hid hj
    clear hj
    by_cases hlt : k < n
    · obtain ⟨a, rfl, _, hc⟩ := H.out.byte hlt
      have Hs : Hid (sumSteps 8 (m ^^^ (l[k]?.getD 0).toNat) = sumRest (4294967295 - s) (l.take (k + 1))) :=
        Lib.hid (by rw [take_snoc (by have := Hl.out; omega), sumRest_snoc, ← Hj.out])
      have hx := xor_byte_lt hm (l[k]?.getD 0)
      have Hx := Lib.hid (u32_in m (l[k]?.getD 0) hm)
      clear Hj
      go_wp2
      go_loop [5, 7] (fun c i => ∃ (j q : Nat), j ≤ 8 ∧ q < 4294967296 ∧ c = .int .u32 (q : Int) ∧ i = .int .i64 (j : Int) ∧ sumSteps 8 (m ^^^ (l[k]?.getD 0).toNat) = sumSteps (8 - j) q) (fun _ i => 8 - (intOf i).toNat)
      case atStart => exact ⟨0, _, by omega, hx, by rw [Hx.out], rfl, rfl⟩
      case round =>
        obtain ⟨j, q, hj, hq, rfl, rfl, hi⟩ := hrel
        have Hi := Lib.hid hi
        clear hi
        by_cases hjl : j < 8
        · by_cases hp : q % 2 = 1
          · have hpi : ((q : Int) % 2 == 1) = true := by simp; omega
            have Ho := Lib.hid (u32_odd hq hp)
            clear hp
            go_wp2
            go_round
            case rel =>
              refine ⟨j + 1, sumStep q, by omega, sumStep_lt hq, by rw [Ho.out], by go_num, ?_⟩
              rw [Hi.out, show 8 - j = (8 - (j + 1)) + 1 from by omega]
              rfl
            case measure => simp [intOf]; omega
          · have hpi : ((q : Int) % 2 == 1) = false := by simp; omega
            have Ho : Hid ((q : Int) / 2 = (sumStep q : Int)) := Lib.hid (by unfold sumStep; rw [if_neg hp]; omega)
            clear hp
            go_wp2
            go_round
            case rel =>
              refine ⟨j + 1, sumStep q, by omega, sumStep_lt hq, by rw [Ho.out], by go_num, ?_⟩
              rw [Hi.out, show 8 - j = (8 - (j + 1)) + 1 from by omega]
              rfl
            case measure => simp [intOf]; omega
        · obtain rfl : j = 8 := by omega
          go_wp2
          go_round
          case rel => exact ⟨k + 1, q, by omega, hq, rfl, by go_num, by rw [← Hs.out, Hi.out]; rfl⟩
          case measure => simp [intOf]; omega
    · obtain rfl : k = n := by omega
      have e : l.take k = l := List.take_of_length_le (by have := Hl.out; omega)
      have Hv : Hid (bits .xor .u32 (m : Int) 4294967295 = (sumMore s l : Int)) := Lib.hid (by rw [u32_flip' hm, Hj.out, e]; rfl)
      clear e
      go_wp2
      go_ret
      exact ⟨ret_u32 Hv.out, rfl⟩

theorem refOf_any (A : Option Addr) (n c B : Nat) (l : List UInt8) (w : World) (h : HasBytes w B A n l) (hn : n ≤ maxLen) :
    Calls Try.prog 20 #[.slice A n c] w fun e w' => e = .returned (.int .u32 (sumOf l : Int)) ∧ w = w' := by
  have H := Lib.hid h
  clear h
  go_enter Try.func20, Try.ntmps20
  go_wp2_with fail
  refine (refMore_any A n c B 0 l w H.out hn (by omega)).mono ?_
  rintro e w' ⟨rfl, rfl⟩
  go_wp2
  go_ret
  exact ⟨rfl, rfl⟩

end Go.Proofs.Yteegnohfmonakaa

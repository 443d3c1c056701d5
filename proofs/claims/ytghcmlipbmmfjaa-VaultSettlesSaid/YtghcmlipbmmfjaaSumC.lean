/- sum.Put, sum.Get and the document's Put give what the plain text (SpecSum) gives. Condition: the bytes are in memory. -/
import Derived.Test.YtghcmlipbmmfjaaSumA
import Derived.Lib.SlBytesConst
namespace Go.Proofs.Ytghcmlipbmmfjaa
open Go.RowKit
open Go.Lib (strCells)

/-- the four bytes, the last k of them put -/
def putPart (n k : Nat) : List UInt8 := List.replicate (4 - k) 0 ++ (sumPut n).drop (4 - k)
theorem putPart_set {n : Nat} (hn : n < 4294967296) {k : Nat} (hk : k < 4) : (putPart n k).set (3 - k) (UInt8.ofNat (n / 2 ^ (8 * k) % 256)) = putPart n (k + 1) := by
  match k, hk with
  | 0, _ => simp [putPart, sumPut]
  | 1, _ => simp [putPart, sumPut]
  | 2, _ => simp [putPart, sumPut]
  | 3, _ =>
    have : n / 16777216 % 256 = n / 16777216 := Nat.mod_eq_of_lt (by omega)
    simp [putPart, sumPut, this]

theorem putPart_len (n : Nat) {k : Nat} (hk : k ≤ 4) : (putPart n k).length = 4 := by
  match k, hk with
  | 0, _ => rfl
  | 1, _ => rfl
  | 2, _ => rfl
  | 3, _ => rfl
  | 4, _ => rfl
theorem ofNat_byte (m : Nat) : ((UInt8.ofNat (m % 256)).toNat : Int) = (m : Int) % 256 := by
  rw [UInt8.toNat_ofNat']
  omega

set_option maxHeartbeats 400000 in
theorem put_any (n : Nat) (w : World) (hn : n < 4294967296) :
    Calls Try.prog 38 #[.int .u32 (n : Int)] w (Gives w.heap.size 4 (byteCells (sumPut n)) w) := by
  have hmk : ∀ w, (Instr.makeSlice 47 (.int .i64 4) (.int .i64 4)).run Try.prog w = .ok (.slice (some ⟨w.heap.size, 0, none⟩) 4 4) (w.alloc (.cells #[.int .u8 0, .int .u8 0, .int .u8 0, .int .u8 0] 5)) := fun _ => by kernel_rfl
  have hlit := World.ownsRow_lit (base := w.heap.size) (e := 5) (size := 1) w #[.int .u8 0, .int .u8 0, .int .u8 0, .int .u8 0] 4 (Nat.le_refl _) (by simp [maxLen]) rfl
  have Hlit := Lib.hid hlit
  clear hlit
  go_enter Try.func38, Try.ntmps38
  go_wp2
  go_loopw [6] (fun i wr => ∃ (k : Nat), k ≤ 4 ∧ i = .int .i64 (k : Int) ∧ wr.ownsRow w.heap.size 5 1 (.slice (some ⟨w.heap.size, 0, none⟩) 4 4) 4 (byteCells (putPart n k)) ∧ Below w.heap.size w wr) (fun i _ => 4 - (intOf i).toNat)
  case atStart => exact ⟨0, by omega, rfl, Hlit.out, (Below.refl _ _).alloc (Nat.le_refl _) _⟩
  case round =>
    obtain ⟨k, hk, rfl, hown, hb⟩ := hrel
    by_cases hlt : k < 4
    · obtain ⟨v, hc⟩ : ∃ v, wr.cell? ⟨w.heap.size, 3 - k, none⟩ = some v := by
        rw [hown.cellAt (3 - k) (by omega)]
        exact ⟨_, List.getElem?_eq_getElem (by rw [byteCells_length, putPart_len n hk]; omega)⟩
      have hf := hown.frozenAt (3 - k)
      have Hst := Lib.hid (fun u => (hown.stored (3 - k) u).1)
      have Hb := Lib.hid hb
      have Hs := Lib.hid (putPart_set hn hlt)
      have He : Hid (((UInt8.ofNat (n / 2 ^ (8 * k) % 256)).toNat : Int) = (n : Int) / 2 ^ (8 * k) % 256) := Lib.hid (by rw [ofNat_byte, Int.natCast_ediv, Int.natCast_pow]; rfl)
      clear hown hb
      go_wp2
      go_roundw
      case rel =>
        refine ⟨k + 1, by omega, by go_num, ?_, Hb.out.setCell (Nat.le_refl _) _⟩
        have := Hst.out (.int .u8 ((n : Int) / 2 ^ (8 * k) % 256))
        rw [← He.out, byteCells_set, Hs.out] at this
        rw [← He.out]
        exact this
      case measure => simp [intOf]; omega
    · obtain rfl : k = 4 := by omega
      have Hown := Lib.hid hown
      have Hb := Lib.hid hb
      clear hown hb
      go_wp2
      go_ret
      exact ret_own rfl Hown.out rfl rfl Hb.out

/-- the number that stands in bytes from a place on, and the error -/
def getSum (l : List UInt8) (p : Int) : Nat × Nat :=
  if p < 0 ∨ (l.length : Int) < p then (0, 1) else if (l.length : Int) - p < 4 then (0, 2) else (sumNum 0 ((l.drop p.toNat).take 4), 0)

theorem or_byte {x : Nat} (hx : x < 16777216) (b : UInt8) : bits .or .u32 ((x : Int) * 256) (b.toNat : Int) = ((x * 256 + b.toNat : Nat) : Int) := by
  have hb := b.toNat_lt
  have e := Nat.two_pow_add_eq_or_of_lt (i := 8) (b := b.toNat) (by omega) x
  rw [show (2 : Nat) ^ 8 * x = x * 256 from by omega] at e
  rw [show (x : Int) * 256 = ((x * 256 : Nat) : Int) from by omega, u32_or_nat _ _ (by omega) (by omega), e]

set_option maxHeartbeats 400000 in
theorem get_any (A : Option Addr) (n c B : Nat) (p : Int) (l : List UInt8) (w : World) (h : HasBytes w B A n l) (hn : n ≤ 4611686018427387904) (hnc : n ≤ c) :
    Calls Try.prog 40 #[.slice A n c, .int .i64 p] w fun e w' => e = .returned (.tuple #[.int .u32 ((getSum l p).1 : Int), .int .i64 ((getSum l p).2 : Int)]) ∧ w = w' := by
  have hl := h.len
  by_cases hout : p < 0 ∨ (n : Int) < p
  · have Hv : Hid (getSum l p = (0, 1)) := Lib.hid (by unfold getSum; rw [hl, if_pos hout])
    clear hl h
    have h2 : p < 0 ∨ (¬ p < 0 ∧ (n : Int) < p) := by omega
    clear hout
    rcases h2 with h2 | ⟨h2, h3⟩
    all_goals
      go_enter Try.func40, Try.ntmps40
      go_wp2
      go_ret2
      rw [Hv.out]
      exact ⟨rfl, rfl⟩
  · obtain ⟨q, rfl⟩ : ∃ q : Nat, p = q := ⟨p.toNat, by omega⟩
    by_cases hs : (n : Int) - (q : Int) < 4
    · have Hv : Hid (getSum l q = (0, 2)) := Lib.hid (by unfold getSum; rw [hl, if_neg hout, if_pos hs])
      have hq : q ≤ n := by omega
      clear hl h hout
      go_enter Try.func40, Try.ntmps40
      go_wp2
      go_ret2
      rw [Hv.out]
      exact ⟨rfl, rfl⟩
    · have Hv : Hid (getSum l q = (sumNum 0 ((l.drop q).take 4), 0)) := Lib.hid (by unfold getSum; rw [hl, if_neg hout, if_neg hs]; rfl)
      have hq : q + 4 ≤ n := by omega
      have hpart : HasBytes w B (if c = q then A else A.map (·.add q)) 4 ((l.drop q).take 4) := HasBytes.head (HasBytes.part h (by omega) hnc) (by omega)
      obtain ⟨A', hA⟩ : ∃ A', (if c = q then A else A.map (·.add q)) = A' := ⟨_, rfl⟩
      rw [hA] at hpart
      obtain ⟨b, hb⟩ : ∃ b, (l.drop q).take 4 = b := ⟨_, rfl⟩
      have Hv2 : Hid (getSum l q = (sumNum 0 b, 0)) := Lib.hid (by rw [← hb]; exact Hv.out)
      rw [hb] at hpart
      have Hpart := Lib.hid hpart
      have Hbl := Lib.hid (HasBytes.len hpart)
      clear hpart hb hl h hout Hv hs
      go_enter Try.func40, Try.ntmps40
      go_wp2
      go_loop [6, 28] (fun s i => ∃ (k x : Nat), k ≤ 4 ∧ x < 256 ^ k ∧ i = .int .i64 (k : Int) ∧ s = .int .u32 (x : Int) ∧ x = sumNum 0 (b.take k)) (fun _ i => 4 - (intOf i).toNat)
      case atStart => exact ⟨0, 0, by omega, by omega, rfl, rfl, rfl⟩
      case round =>
        obtain ⟨k, x, hk, hx, rfl, rfl, hj⟩ := hrel
        have Hj := Lib.hid hj
        clear hj
        by_cases hlt : k < 4
        · obtain ⟨a, rfl, _, hc⟩ := Hpart.out.byte hlt
          have hx3 : x < 16777216 := Nat.lt_of_lt_of_le hx (by have : 256 ^ k ≤ 256 ^ 3 := Nat.pow_le_pow_right (by omega) (by omega); simpa using this)
          have Ho := Lib.hid (or_byte hx3 (b[k]?.getD 0))
          have hb256 := (b[k]?.getD 0).toNat_lt
          have hxx : x * 256 + (b[k]?.getD 0).toNat < 256 ^ (k + 1) := by rw [Nat.pow_succ]; omega
          have Hs : Hid (x * 256 + (b[k]?.getD 0).toNat = sumNum 0 (b.take (k + 1))) := Lib.hid (by rw [take_snoc (by have := Hbl.out; omega), sumNum_snoc, ← Hj.out])
          go_wp2
          go_round
          case rel => exact ⟨k + 1, _, by omega, hxx, by go_num, by rw [Ho.out], Hs.out⟩
          case measure => simp [intOf]; omega
        · obtain rfl : k = 4 := by omega
          have Ht : Hid (x = sumNum 0 b) := Lib.hid (by rw [Hj.out, List.take_of_length_le (by have := Hbl.out; omega)])
          go_wp2
          go_ret2
          rw [Hv2.out, Ht.out]
          exact ⟨rfl, rfl⟩

end Go.Proofs.Ytghcmlipbmmfjaa

/- Same of two rows with the same values is true; Next, of the program and of the document, gives what the plain text (SpecCut) gives. Condition: rows in memory. -/
import Derived.Test.YtojponcnilahiaaTupC
import Derived.Test.YtojponcnilahiaaSpecCut
import Derived.Test.YtojponcnilahiaaConv
import Derived.Laws.StructEq
namespace Go.Proofs.Ytojponcnilahiaa
open Go.RowKit
open Go.Lib (strCells compareBytes)

theorem below_drews {B : Nat} {a w : World} (h : Below B a w) (n : Nat) : Below B a (w.drewN n) := ⟨h.os, h.tape, h.output, h.size, h.block⟩
theorem HasVals.draws {w : World} {B n : Nat} {A : Option Addr} {l : List TVal} (h : HasVals w B A n l) (k : Nat) : HasVals (w.drewN k) B A n l := h

theorem same_true (A A' : Option Addr) (n c c' C C' : Nat) (L : List TVal) (w : World) (ha : HasVals w C A n L) (hb : HasVals w C' A' n L) (hn : n ≤ maxLen) :
    Calls Try.prog 14 #[.slice A n c, .slice A' n c'] w fun e w' => e = .returned (.bool true) ∧ Below w.heap.size w w' := by
  unfold maxLen at hn
  have H := Lib.hid ha
  have H' := Lib.hid hb
  clear ha hb
  go_enter Try.func14, Try.ntmps14
  go_wp2
  go_loopw [5] (fun i wr => ∃ k : Nat, k ≤ n ∧ i = .int .i64 (k : Int) ∧ ∃ m, wr = w.drewN m) (fun i _ => n - (intOf i).toNat)
  case atStart => exact ⟨0, by omega, rfl, 0, rfl⟩
  case round =>
    obtain ⟨k, hk, rfl, m, rfl⟩ := hrel
    by_cases hlt : k < n
    · obtain ⟨a, v, rfl, _, hv, c0, c1, c2⟩ := H.out.at_ hlt
      obtain ⟨b, u, rfl, _, hu, d0, d1, d2⟩ := H'.out.at_ hlt
      have e : u = v := by rw [hv] at hu; injection hu with h; exact h.symm
      subst e
      clear hv hu
      have hk0 : (0 : Int) ≤ (k : Int) := by omega
      have hk1 : (k : Int) < (n : Int) := by omega
      go_wp2
      go_quiet (fail)
      go_wp2
      go_roundw
      case rel => exact ⟨k + 1, by omega, by go_num, _, rfl⟩
      case measure => simp [intOf]; omega
    · go_wp2
      go_ret
      exact ⟨rfl, below_drews (Below.refl _ _) _⟩

/-- the bytes with the one at j turned -/
theorem bytes_set {w : World} {g : Nat} {l : List UInt8} {j : Nat} {y : UInt8} (h : Bytes w g l) (hj : j < l.length) : HasBytes (w.setCell ⟨g, j, none⟩ (.int .u8 (y.toNat : Int))) (g + 1) (some ⟨g, 0, none⟩) l.length (l.set j y) := by
  refine ⟨by simp [byteCells], fun k u hu => ⟨_, rfl, by simp, ?_⟩⟩
  have hk : k < l.length := by
    have := (List.getElem?_eq_some_iff.1 hu).1
    simpa [byteCells] using this
  have e : (⟨g, 0, none⟩ : Addr).add k = ⟨g, k, none⟩ := by unfold Addr.add; split <;> simp_all
  rw [e]
  by_cases hkj : k = j
  · subst hkj
    obtain ⟨old, ho⟩ : ∃ old, w.cell? ⟨g, k, none⟩ = some old := ⟨_, (h.2 k hk).1⟩
    rw [World.cell?_setCell_same _ _ _ ho, ← hu]
    simp [byteCells, hk]
  · rw [World.cell?_setCell_other w _ _ _ (fun e => hkj (by injection e with _ e; exact e.symm)), (h.2 k hk).1, ← hu]
    have : ¬ j = k := fun e => hkj e.symm
    simp [byteCells, hk, this]
theorem all_ff_drop {l : List UInt8} {j : Nat} {x : UInt8} (h : ∀ y ∈ l.drop (j + 1), y = 255) (hj : j < l.length) (hx : l[j]?.getD 0 = x) (h255 : x = 255) : ∀ y ∈ l.drop j, y = 255 := by
  intro y hy
  rw [drop_at hj, hx] at hy
  rcases List.mem_cons.1 hy with rfl | hy
  · exact h255
  · exact h y hy
theorem nextT_at {l : List UInt8} {j : Nat} {x : UInt8} (h : ∀ y ∈ l.drop (j + 1), y = 255) (hj : j < l.length) (hx : l[j]?.getD 0 = x) (hne : x ≠ 255) : nextT l = l.take j ++ [x + 1] := by
  have e : l = (l.take j ++ [x]) ++ l.drop (j + 1) := by
    rw [← hx, ← take_snoc hj, List.take_append_drop]
  conv => lhs; rw [e]
  rw [nextT_app _ (nextT_ff h), nextT_snoc _ hne]
theorem set_last {l : List UInt8} {j : Nat} {y : UInt8} (h : l.length = j + 1) : l.set j y = l.take j ++ [y] := by
  rw [List.set_eq_take_append_cons_drop, if_pos (by omega), List.drop_of_length_le (by omega)]
theorem byte_at (s : ByteArray) (k : Nat) (h : k < s.size) : s[k] = s.data.toList[k]?.getD 0 := by
  have h' : k < s.data.toList.length := by rw [← Lib.size_eq]; exact h
  simp [List.getElem?_eq_getElem h']
  rfl

theorem next_any (s : ByteArray) (w : World) (hs : s.size ≤ maxLen) :
    Calls Try.prog 33 #[.string s] w fun e w' => e = .returned (.string ⟨(nextT s.data.toList).toArray⟩) ∧ Below w.heap.size w w' := by
  unfold maxLen at hs
  have Hsl := Lib.hid (Lib.size_eq s)
  go_enter Try.func33, Try.ntmps33
  go_wp2
  go_loop [3] (fun i => ∃ k : Nat, k ≤ s.size ∧ i = .int .i64 (k : Int) ∧ Hid (∀ y ∈ s.data.toList.drop k, y = 255)) (fun i => (intOf i).toNat)
  case atStart => exact ⟨s.size, by omega, rfl, Lib.hid (by rw [List.drop_of_length_le (by have := Hsl.out; omega)]; simp)⟩
  case round =>
    obtain ⟨k, hk, rfl, Hf⟩ := hrel
    by_cases hk0 : k = 0
    · subst hk0
      have E : Hid (nextT s.data.toList = []) := Lib.hid (nextT_ff (by simpa using Hf.out))
      go_wp2
      go_ret
      exact ⟨by rw [E.out]; rfl, Below.refl _ _⟩
    · obtain ⟨j, rfl⟩ : ∃ j, k = j + 1 := ⟨k - 1, by omega⟩
      clear hk0
      have hlt : j < s.size := by omega
      obtain ⟨x, hx⟩ : ∃ x, s[j] = x := ⟨_, rfl⟩
      have Hx : Hid (s.data.toList[j]?.getD 0 = x) := Lib.hid (by rw [← byte_at s j hlt, hx])
      have hjl := Lib.hid (show j < s.data.toList.length from by have := Hsl.out; omega)
      have h256 := x.toNat_lt
      by_cases hff : x = 255
      · subst hff
        go_wp2
        go_round
        case rel => exact ⟨j, by omega, rfl, Lib.hid (all_ff_drop Hf.out hjl.out Hx.out rfl)⟩
        case measure => simp [intOf]
      · have E : Hid (nextT s.data.toList = s.data.toList.take j ++ [x + 1]) := Lib.hid (nextT_at Hf.out hjl.out Hx.out hff)
        have hx1 : ((x.toNat : Int) == 255) = false := by
          have : x.toNat ≠ 255 := fun e => hff (UInt8.toNat_inj.1 (by rw [e]; rfl))
          simp
          omega
        have hx254 : x.toNat < 255 := by
          have : x.toNat ≠ 255 := fun e => hff (UInt8.toNat_inj.1 (by rw [e]; rfl))
          omega
        obtain ⟨t, ht⟩ : ∃ t, s.extract 0 (j + 1) = t := ⟨_, rfl⟩
        have Ht : Hid (t.data.toList = s.data.toList.take (j + 1)) := Lib.hid (by rw [← ht, Lib.extract_data]; simp)
        obtain ⟨w0, c0, hcv, hc0, hz0, hb0, hbs⟩ := conv_bytes Try.prog w 9 62 5 t Try.underlying9 Try.underlying62 Try.underlying5
        have htl : t.data.toList.length = j + 1 := by rw [Ht.out, List.length_take]; have := hjl.out; omega
        have hts : j < t.size := by rw [Lib.size_eq, htl]; omega
        have Hts := Lib.hid (Lib.size_eq t)
        obtain ⟨hcell, hfr⟩ := hbs.2 j (by omega)
        have hxt : t.data.toList[j]?.getD 0 = x := by rw [Ht.out, ← Hx.out]; simp
        rw [hxt] at hcell
        have hset : HasBytes (w0.setCell ⟨w.heap.size, j, none⟩ (.int .u8 ((x.toNat : Int) + 1))) (w.heap.size + 1) (some ⟨w.heap.size, 0, none⟩) t.size (s.data.toList.take j ++ [x + 1]) := by
          have e1 : ((x + 1).toNat : Int) = (x.toNat : Int) + 1 := by
            rw [UInt8.toNat_add]
            show (((x.toNat + 1) % 256 : Nat) : Int) = _
            omega
          have h1 := bytes_set (y := x + 1) hbs (show j < t.data.toList.length from by omega)
          rw [set_last htl, e1, ← Hts.out, Ht.out, List.take_take, Nat.min_eq_left (by omega)] at h1
          exact h1
        have hcv2 := run_string_of (P := Try.prog) hset c0 62 9 5 Try.underlying62 Try.underlying5 Try.underlying9
        have Hb0 := Lib.hid hb0
        clear hff htl hxt hset hbs hb0
        go_wp2
        go_ret
        exact ⟨by rw [E.out]; rfl, Hb0.out.setCell (Nat.le_refl _) _⟩

theorem refNext_any (s : ByteArray) (w : World) (hs : s.size ≤ maxLen) :
    Calls Try.prog 35 #[.string s] w fun e w' => e = .returned (.string ⟨(nextT s.data.toList).toArray⟩) ∧ Below w.heap.size w w' := by
  unfold maxLen at hs
  have Hsl := Lib.hid (Lib.size_eq s)
  go_enter Try.func35, Try.ntmps35
  go_wp2
  go_loop [3] (fun i => ∃ k : Nat, k ≤ s.size ∧ i = .int .i64 (k : Int) ∧ Hid (∀ y ∈ s.data.toList.drop k, y = 255)) (fun i => (intOf i).toNat)
  case atStart => exact ⟨s.size, by omega, rfl, Lib.hid (by rw [List.drop_of_length_le (by have := Hsl.out; omega)]; simp)⟩
  case round =>
    obtain ⟨k, hk, rfl, Hf⟩ := hrel
    by_cases hk0 : k = 0
    · subst hk0
      have E : Hid (nextT s.data.toList = []) := Lib.hid (nextT_ff (by simpa using Hf.out))
      go_wp2
      go_ret
      exact ⟨by rw [E.out]; rfl, Below.refl _ _⟩
    · obtain ⟨j, rfl⟩ : ∃ j, k = j + 1 := ⟨k - 1, by omega⟩
      clear hk0
      have hlt : j < s.size := by omega
      obtain ⟨x, hx⟩ : ∃ x, s[j] = x := ⟨_, rfl⟩
      have Hx : Hid (s.data.toList[j]?.getD 0 = x) := Lib.hid (by rw [← byte_at s j hlt, hx])
      have hjl := Lib.hid (show j < s.data.toList.length from by have := Hsl.out; omega)
      have h256 := x.toNat_lt
      by_cases hff : x = 255
      · subst hff
        go_wp2
        go_round
        case rel => exact ⟨j, by omega, rfl, Lib.hid (all_ff_drop Hf.out hjl.out Hx.out rfl)⟩
        case measure => simp [intOf]
      · have E : Hid (nextT s.data.toList = s.data.toList.take j ++ [x + 1]) := Lib.hid (nextT_at Hf.out hjl.out Hx.out hff)
        have hx1 : ((x.toNat : Int) == 255) = false := by
          have : x.toNat ≠ 255 := fun e => hff (UInt8.toNat_inj.1 (by rw [e]; rfl))
          simp
          omega
        have hx254 : x.toNat < 255 := by
          have : x.toNat ≠ 255 := fun e => hff (UInt8.toNat_inj.1 (by rw [e]; rfl))
          omega
        obtain ⟨t, ht⟩ : ∃ t, s.extract 0 (j + 1) = t := ⟨_, rfl⟩
        have Ht : Hid (t.data.toList = s.data.toList.take (j + 1)) := Lib.hid (by rw [← ht, Lib.extract_data]; simp)
        obtain ⟨w0, c0, hcv, hc0, hz0, hb0, hbs⟩ := conv_bytes Try.prog w 9 62 5 t Try.underlying9 Try.underlying62 Try.underlying5
        have htl : t.data.toList.length = j + 1 := by rw [Ht.out, List.length_take]; have := hjl.out; omega
        have hts : j < t.size := by rw [Lib.size_eq, htl]; omega
        have Hts := Lib.hid (Lib.size_eq t)
        obtain ⟨hcell, hfr⟩ := hbs.2 j (by omega)
        have hxt : t.data.toList[j]?.getD 0 = x := by rw [Ht.out, ← Hx.out]; simp
        rw [hxt] at hcell
        have hset : HasBytes (w0.setCell ⟨w.heap.size, j, none⟩ (.int .u8 ((x.toNat : Int) + 1))) (w.heap.size + 1) (some ⟨w.heap.size, 0, none⟩) t.size (s.data.toList.take j ++ [x + 1]) := by
          have e1 : ((x + 1).toNat : Int) = (x.toNat : Int) + 1 := by
            rw [UInt8.toNat_add]
            show (((x.toNat + 1) % 256 : Nat) : Int) = _
            omega
          have h1 := bytes_set (y := x + 1) hbs (show j < t.data.toList.length from by omega)
          rw [set_last htl, e1, ← Hts.out, Ht.out, List.take_take, Nat.min_eq_left (by omega)] at h1
          exact h1
        have hcv2 := run_string_of (P := Try.prog) hset c0 62 9 5 Try.underlying62 Try.underlying5 Try.underlying9
        have Hb0 := Lib.hid hb0
        clear hff htl hxt hset hbs hb0
        go_wp2
        go_ret
        exact ⟨by rw [E.out]; rfl, Hb0.out.setCell (Nat.le_refl _) _⟩

end Go.Proofs.Ytojponcnilahiaa

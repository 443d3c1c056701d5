/- cutInt gives what the plain text (SpecCut) gives. No condition but that the text is one. -/
import Derived.Test.YtajombifjofmmaaGreatTupS
import Derived.Test.YtajombifjofmmaaGreatBoxes
import Derived.Test.YtajombifjofmmaaGreatTupD
import Derived.RegionTactic
import Derived.ChangeAlike
import Derived.Laws.BitsAllLaws
import Derived.Outline
namespace Go.Proofs.YtajombifjofmmaaGreat
open Go.RowKit
open Go.Lib (strCells compareBytes)

/-- what a reader of one value answers -/
def resVal : Res TVal → Value
  | .ok v r => .tuple #[vagg v, .string ⟨r.toArray⟩, .int .i64 0]
  | .err e => .tuple #[.agg #[.int .i64 0, .int .i64 0, .string ⟨#[]⟩], .string ⟨#[]⟩, .int .i64 e]

theorem u64_or8 {X x : Nat} (hx : x < 2 ^ 8) (hX : X ≤ 72057594037927935) : bits .or .u64 ((X : Int) * 256) (x : Int) = ((X * 256 + x : Nat) : Int) := by
  have h := u64_or_nat (X * 256) x (by omega) (by omega)
  have e := Nat.two_pow_add_eq_or_of_lt (i := 8) (b := x) hx X
  rw [show (2 : Nat) ^ 8 * X = X * 256 from by omega] at e
  rw [← e] at h
  rw [← h, Int.natCast_mul]
  rfl
theorem i64_back {X : Nat} (h : X < 18446744073709551616) : wrap64 (IntKind.u64.wrap ((X : Int) - 9223372036854775808)) = (X : Int) - 9223372036854775808 := by
  have e : IntKind.u64.wrap ((X : Int) - 9223372036854775808) = ((X : Int) - 9223372036854775808) % 18446744073709551616 := by
    simp only [IntKind.wrap, IntKind.signed, IntKind.bits]
    simp
  rw [e]
  unfold wrap64
  omega
theorem cutInt_any (s : ByteArray) (w : World) (hs : s.size ≤ maxLen) :
    Calls Tryz.prog 136 #[.string s] w fun e w' => e = .returned (resVal (cutInt s.data.toList)) ∧ Below w.heap.size w w' := by
  unfold maxLen at hs
  have Hsl := Lib.hid (Lib.size_eq s)
  by_cases h8 : s.size < 8
  · have E : Hid (cutInt s.data.toList = .err 2) := Lib.hid (by unfold cutInt; rw [if_pos (by have := Hsl.out; omega)])
    go_enter Tryz.func136, Tryz.ntmps136
    go_wp2
    refine bodyPost_ret (v := resVal (.err 2)) ?_ rfl ⟨by rw [E.out], ?_⟩
    · simp [results, Tryz.results136, go_sem, resVal]
    · exact (below_box _)
  · obtain ⟨t, ht⟩ : ∃ t, s.extract 0 8 = t := ⟨_, rfl⟩
    have Ht : Hid (t.data.toList = s.data.toList.take 8) := Lib.hid (by rw [← ht, Lib.extract_data]; simp)
    have hts : t.size = 8 := by rw [Lib.size_eq, Ht.out, List.length_take]; have := Hsl.out; omega
    have Hcv := fun wx : World => conv_bytes Tryz.prog wx 9 119 5 t Tryz.underlying9 Tryz.underlying119 Tryz.underlying5
    obtain ⟨w0, c0, hcv, hc0, hz0, hb0, hbs⟩ := Hcv (w.alloc (.cells #[.int .i64 0, .int .i64 0, .string ⟨#[]⟩] 55))
    rw [hts] at hcv
    have hd : decide ((s.size : Int) < 8) = false := by simp; omega
    have hle : 8 ≤ s.size := by omega
    have Hbs := Lib.hid hbs
    have Hb0 := Lib.hid ((below_box _).trans (hb0.mono (by simp)))
    have hz : w.heap.size + 2 = w0.heap.size := by rw [hz0]; simp
    have Hz := Lib.hid hz
    have Htl : Hid (t.data.toList.length = 8) := Lib.hid (by rw [← Lib.size_eq, hts])
    have Hq := Lib.hid (box_below hb0)
    have h8i : (8 : Int) ≤ (s.size : Int) := by omega
    clear hbs hb0 hz0 hz h8 hts Hcv
    go_enter Tryz.func136, Tryz.ntmps136
    go_wp2
    clear hcv
    go_loop [5, 7, 16] (fun u _ i => ∃ (k X : Nat), k ≤ 8 ∧ X < 256 ^ k ∧ i = .int .i64 (k : Int) ∧ u = .int .u64 (X : Int) ∧ Hid (X = numB 0 (t.data.toList.take k))) (fun _ _ i => 8 - (intOf i).toNat)
    case atStart => exact ⟨0, 0, by omega, by simp, rfl, rfl, Lib.hid rfl⟩
    case round =>
      obtain ⟨k, X, hk, hX, rfl, rfl, Hn⟩ := hrel
      by_cases hlt : k < 8
      · have hc := (Hbs.out.2 k (by rw [Htl.out]; omega)).1
        simp only [World.size_alloc] at hc
        have He := Lib.hid (take_snoc (l := t.data.toList) (k := k) (by rw [Htl.out]; omega))
        obtain ⟨x, hx⟩ : ∃ x, t.data.toList[k]?.getD 0 = x := ⟨_, rfl⟩
        rw [hx] at hc He
        clear hx
        have h256 := x.toNat_lt
        have hX7 : X ≤ 72057594037927935 := by
          have : 256 ^ k ≤ 256 ^ 7 := Nat.pow_le_pow_right (by omega) (by omega)
          omega
        go_wp2
        go_round
        case rel =>
          refine ⟨k + 1, X * 256 + x.toNat, by omega, ?_, by go_num, by rw [u64_or8 h256 hX7], Lib.hid ?_⟩
          · rw [Nat.pow_succ]; omega
          · rw [He.out, numB_snoc, ← Hn.out]
        case measure => simp [intOf]; omega
      · obtain rfl : k = 8 := by omega
        have E : Hid (cutInt s.data.toList = .ok ⟨1, (X : Int) - 9223372036854775808, ⟨#[]⟩⟩ (s.data.toList.drop 8)) := Lib.hid (by
          unfold cutInt
          rw [if_neg (by have := Hsl.out; omega), ← Ht.out, Hn.out, List.take_of_length_le (by rw [Htl.out]; omega)])
        clear ht
        obtain ⟨r, hr⟩ : ∃ r, s.extract 8 s.size = r := ⟨_, rfl⟩
        have Hr : Hid (r = ⟨(s.data.toList.drop 8).toArray⟩) := Lib.hid (by rw [← hr]; exact extract_end s 8)
        have Hw : Hid (wrap64 (IntKind.u64.wrap ((X : Int) - 9223372036854775808)) = (X : Int) - 9223372036854775808) := Lib.hid (i64_back (by omega))
        obtain ⟨q0, q1, q2, f0, f1, f2⟩ := Hq.out
        go_wp2
        go_region
        obtain ⟨W3, hW3⟩ : ∃ W3, ((w0.setCell ⟨w.heap.size, 0, none⟩ (.int .i64 1)).setCell ⟨w.heap.size, 1, none⟩ (.int .i64 (wrap64 (IntKind.u64.wrap ((X : Int) - 9223372036854775808))))).setCell ⟨w.heap.size, 2, none⟩ (.string ⟨#[]⟩) = W3 := ⟨_, rfl⟩
        have hp := box_store (x' := .int .i64 1) (y' := .int .i64 (wrap64 (IntKind.u64.wrap ((X : Int) - 9223372036854775808)))) (z' := .string ⟨#[]⟩) q0 q1 q2
        rw [hW3] at hp ⊢
        rw [Hw.out] at hp
        have Hbw : Hid (Below w.heap.size w W3) := Lib.hid (by
          rw [← hW3]
          exact ((Hb0.out.setCell (Nat.le_refl _) _).setCell (Nat.le_refl _) _).setCell (Nat.le_refl _) _)
        obtain ⟨p0, p1, p2⟩ := hp
        clear q0 q1 q2 f0 f1 f2 hr hW3
        go_wp2
        refine bodyPost_ret (v := resVal (.ok ⟨1, (X : Int) - 9223372036854775808, ⟨#[]⟩⟩ (s.data.toList.drop 8))) ?_ rfl ⟨by rw [E.out], Hbw.out.drew⟩
        have hr := Hr.out
        simp [results, Tryz.results136, go_sem, resVal, vagg, p0, p1, p2, hr]

end Go.Proofs.YtajombifjofmmaaGreat

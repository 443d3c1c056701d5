/- frame.sumOf and frame.Wrap give what the plain text (SpecFrame) gives. Condition: the bytes are in memory. -/
import Derived.Test.YtghcmlipbmmfjaaFrmA
import Derived.Test.YtghcmlipbmmfjaaSpecFrame
import Derived.Test.YtghcmlipbmmfjaaRegion
namespace Go.Proofs.Ytghcmlipbmmfjaa
open Go.RowKit
open Go.Lib (strCells)

theorem sumOf_any (A A' : Option Addr) (n n' c c' B B' : Nat) (l l' : List UInt8) (w : World) (h : HasBytes w B A n l) (h' : HasBytes w B' A' n' l') (hn : n ≤ maxLen) (hn' : n' ≤ maxLen) :
    Calls Try.prog 39 #[.slice A n c, .slice A' n' c'] w fun e w' => e = .returned (.int .u32 (sumOf (l ++ l') : Int)) ∧ w = w' := by
  have H := Lib.hid h
  have H' := Lib.hid h'
  have He : Hid (sumMore (sumOf l) l' = sumOf (l ++ l')) := Lib.hid (sumMore_app (by omega) l l')
  clear h h'
  go_enter Try.func39, Try.ntmps39
  go_wp2_with fail
  refine (of_any A n c B l w H.out hn).mono ?_
  rintro e w' ⟨rfl, rfl⟩
  go_wp2_with fail
  refine (more_any A' n' c' B' (sumOf l) l' w H'.out hn' (sumOf_lt _)).mono ?_
  rintro e w' ⟨rfl, rfl⟩
  rw [He.out]
  go_wp2
  go_ret
  exact ⟨rfl, rfl⟩

theorem frame_row {n N : Nat} (M P S L : List Value) (hM : M.length = 8 + n) (hN : 8 + n = N) (hP : P.length = 4) (hS : S.length = 4) (hL : L.length = n) :
    List.take 8 (List.take 4 (List.take 0 M ++ (List.take N P ++ List.drop (0 + min 4 N) M)) ++ (List.take (N - 4) S ++ List.drop (4 + min 4 (N - 4)) (List.take 0 M ++ (List.take N P ++ List.drop (0 + min 4 N) M)))) ++
      (List.take (N - 8) L ++ List.drop (8 + min n (N - 8)) (List.take 4 (List.take 0 M ++ (List.take N P ++ List.drop (0 + min 4 N) M)) ++ (List.take (N - 4) S ++ List.drop (4 + min 4 (N - 4)) (List.take 0 M ++ (List.take N P ++ List.drop (0 + min 4 N) M))))) = P ++ (S ++ L) := by
  subst hN
  rw [show min 4 (8 + n) = 4 from by omega, show 8 + n - 4 = 4 + n from by omega, show min 4 (4 + n) = 4 from by omega, show 8 + n - 8 = n from by omega, Nat.min_self]
  rw [List.take_of_length_le (by omega : P.length ≤ 8 + n), List.take_of_length_le (by omega : S.length ≤ 4 + n), List.take_of_length_le (by omega : L.length ≤ n)]
  simp only [List.take_zero, List.nil_append, Nat.zero_add]
  rw [List.take_left' hP, List.drop_append, List.drop_eq_nil_of_le (by omega : P.length ≤ 4 + 4), List.nil_append, hP, List.drop_drop, show 4 + 4 - 4 + 4 = 8 from rfl]
  have e : P ++ (S ++ List.drop 8 M) = (P ++ S) ++ List.drop 8 M := by simp
  have e8 : (P ++ S).length = 8 := by simp; omega
  rw [e, List.take_left' e8, List.drop_append, List.drop_eq_nil_of_le (by omega : (P ++ S).length ≤ 8 + n), List.nil_append, e8, List.drop_drop, List.drop_eq_nil_of_le (by omega), List.append_nil, List.append_assoc]

theorem own_row {w : World} {B m m' : Nat} {e : TypeId} {v : Value} {xs xs' : List Value} (h : w.ownsRow B e 1 v m xs) (hm : m = m') (hx : xs = xs') : w.ownsRow B e 1 v m' xs' := by
  subst hm; subst hx
  exact h
theorem wrap_large (A : Option Addr) (n c : Nat) (w : World) (hn : 65536 < n) :
    Calls Try.prog 36 #[.slice A n c] w fun e w' => e = .returned (.tuple #[.slice none 0 0, .int .i64 4]) ∧ w = w' := by
  go_enter Try.func36, Try.ntmps36
  go_wp2
  go_ret2
  exact ⟨rfl, rfl⟩

set_option maxHeartbeats 800000 in
theorem wrap_any (A : Option Addr) (n c B : Nat) (l : List UInt8) (w : World) (h : HasBytes w B A n l) (hB : B ≤ w.heap.size) (hn : n ≤ 65536) :
    Calls Try.prog 36 #[.slice A n c] w fun e w' => ∃ v, e = .returned (.tuple #[v, .int .i64 0]) ∧ w'.ownsRow w.heap.size 5 1 v (8 + n) (byteCells (frameOf l)) ∧ Below w.heap.size w w' := by
  have Hl := Lib.hid h.len
  have H := Lib.hid h
  have HB := Lib.hid hB
  clear h hB
  obtain ⟨M, hMs, hmk, _⟩ := make_bytes .i64 (8 + n) (by omega)
  obtain ⟨N, hN⟩ : ∃ N, 8 + n = N := ⟨_, rfl⟩
  have hmk' : ∀ w : World, (Instr.makeSlice 47 (.int .i64 (8 + (n : Int))) (.int .i64 (8 + (n : Int)))).run Try.prog w = .ok (.slice (some ⟨w.heap.size, 0, none⟩) N N) (w.alloc (.cells M 5)) := fun w => by
    have := hmk w
    rw [hN] at this
    rw [show (8 + (n : Int)) = ((N : Nat) : Int) from by omega]
    exact this
  have HN := Lib.hid hN
  have HMs := Lib.hid hMs
  have hN8 : 8 ≤ N := by omega
  have hNm : N ≤ 65544 := by omega
  clear hmk hN hMs
  go_enter Try.func36, Try.ntmps36
  go_wp2_with fail
  refine (put_any n w (by omega)).mono ?_
  rintro e w1 ⟨v1, rfl, hown1, hb1⟩
  obtain ⟨A1, c1, rfl, hc1, hcm1, hh1⟩ := own_slice hown1
  have Hh1 := Lib.hid hh1
  have Hb1 := Lib.hid hb1
  clear hown1 hh1 hb1 hcm1
  have Hown2 := Lib.hid (World.ownsRow_lit (base := w.heap.size) (e := 5) (size := 1) w1 M N Hb1.out.size (by simp only [maxLen]; omega) (by have := HMs.out; have := HN.out; omega))
  have Hh1' := Lib.hid (Hh1.out.alloc (Nat.le_refl _) (.cells M 5))
  have Hb2 := Lib.hid (Hb1.out.alloc Hb1.out.size (.cells M 5))
  have Hg1 := Lib.hid Hb1.out.size
  obtain ⟨w2, hcp2, hown3, hg2⟩ := run_copy_own (P := Try.prog) (t := 47) (ty := 3) Try.underlying47 u8_one Hown2.out (D := some ⟨w1.heap.size, 0, none⟩) (dl := N) N (o := 0) c1 (fun _ => rfl) (by omega) Hh1'.out (byteCells_one _)
  have Hown3 := Lib.hid hown3
  have Hg2 := Lib.hid hg2
  clear hown3 hg2
  go_wp2
  clear hcp2
  have Hb3 : Hid (Below w1.heap.size w1 w2) := Lib.hid (((Below.refl w1.heap.size w1).alloc (Nat.le_refl _) _).grown Hg2.out (by simp) fun k hk => by injection hk with hk; omega)
  have Hh2 := Lib.hid (Hh1.out.belowOf Hb3.out (Nat.le_refl _))
  have H2 := Lib.hid ((H.out.belowOf Hb1.out HB.out).belowOf Hb3.out (Nat.le_trans HB.out Hg1.out))
  have hN4 : ¬ N = 4 := by omega
  have hN4i : (4 : Int) ≤ (N : Int) := by omega
  have hS := sumOf_lt (sumPut n ++ l)
  go_region_held3 (fun _ => True) (trivial)
    (first
      | (go_at_call 39; refine (sumOf_any A1 A 4 n c1 c w1.heap.size B (sumPut n) l _ ?_ ?_ (by simp [maxLen]) (by simp only [maxLen]; omega)).mono ?_; exact Hh2.out; exact H2.out; rintro e w3 ⟨rfl, rfl⟩)
      | (go_at_call 38; refine (put_any (sumOf (sumPut n ++ l)) _ hS).mono ?_; rintro e w3 ⟨v3, rfl, hown3, hb3⟩; obtain ⟨A3, c3, rfl, hc3, hcm3, hh3⟩ := own_slice hown3; have Hh3 := Lib.hid hh3; have Hb3' : Hid (Below w2.heap.size w2 w3) := Lib.hid (((Below.refl _ w2).drew).trans hb3); clear hc3 hcm3 hh3 hb3 hown3)
      | (refine step_copy_own (by rfl) _ _ _ (by rfl) 5 Try.underlying47 u8_one (own_below Hown3.out Hb3'.out) (D := some ⟨w1.heap.size, 4, none⟩) (dl := N - 4) (dc := N - 4) (sc := c3) (by rfl) (by rfl) (o := 4) (fun _ => rfl) (by omega) Hh3.out (byteCells_one _) ?_; intro w4 hown4 hg4; have Hown4 := Lib.hid hown4; have Hg4 := Lib.hid hg4; clear hown4 hg4))
  have Hc3 : Hid (Below w1.heap.size w2 w3) := Lib.hid (Hb3'.out.mono Hb3.out.size)
  have Hb4 : Hid (Below w1.heap.size w1 w4) := Lib.hid ((Hb3.out.trans Hc3.out).grown Hg4.out (Nat.le_trans Hb3.out.size Hb3'.out.size) fun k hk => by injection hk with hk; omega)
  have H4 := Lib.hid ((H.out.belowOf Hb1.out HB.out).belowOf Hb4.out (Nat.le_trans HB.out Hg1.out))
  obtain ⟨R, hR⟩ : ∃ R, List.take 4 (List.take 0 M.toList ++ (List.take N (byteCells (sumPut n)) ++ List.drop (0 + min 4 N) M.toList)) ++
        (List.take (N - 4) (byteCells (sumPut (sumOf (sumPut n ++ l)))) ++
          List.drop (4 + min 4 (N - 4)) (List.take 0 M.toList ++ (List.take N (byteCells (sumPut n)) ++ List.drop (0 + min 4 N) M.toList))) = R := ⟨_, rfl⟩
  rw [hR] at Hown4
  have Hrow : Hid (R.take 8 ++ ((byteCells l).take (N - 8) ++ R.drop (8 + min n (N - 8))) = byteCells (frameOf l)) := Lib.hid (by
    rw [← hR, frameOf, byteCells_app, byteCells_app, Hl.out]
    exact frame_row _ _ _ _ (by rw [Array.length_toList, HMs.out]) HN.out (byteCells_length _) (byteCells_length _) (by rw [byteCells_length, Hl.out]))
  clear hR
  by_cases hn0 : N = 8
  · obtain ⟨w5, hcp5, hown5, hg5⟩ := run_copy_own (P := Try.prog) (t := 47) (ty := 3) Try.underlying47 u8_one Hown4.out (D := some ⟨w1.heap.size, 0, none⟩) (dl := N - 8) (N - 8) (o := 8) c (fun h => by omega) (by omega) H4.out (byteCells_one _)
    have Hown5 := Lib.hid hown5
    have Hg5 := Lib.hid hg5
    clear hown5 hg5
    have Hb5 : Hid (Below w.heap.size w w5) := Lib.hid ((Hb1.out.trans (Hb4.out.mono Hg1.out)).grown Hg5.out (Nat.le_trans Hg1.out Hb4.out.size) fun k hk => by injection hk with hk; have := Hg1.out; omega)
    subst hn0
    go_wp2
    go_ret2
    exact ⟨_, rfl, own_row Hown5.out HN.out.symm Hrow.out, Hb5.out⟩
  · obtain ⟨w5, hcp5, hown5, hg5⟩ := run_copy_own (P := Try.prog) (t := 47) (ty := 3) Try.underlying47 u8_one Hown4.out (D := some ⟨w1.heap.size, 8, none⟩) (dl := N - 8) (N - 8) (o := 8) c (fun _ => rfl) (by omega) H4.out (byteCells_one _)
    have Hown5 := Lib.hid hown5
    have Hg5 := Lib.hid hg5
    clear hown5 hg5
    have Hb5 : Hid (Below w.heap.size w w5) := Lib.hid ((Hb1.out.trans (Hb4.out.mono Hg1.out)).grown Hg5.out (Nat.le_trans Hg1.out Hb4.out.size) fun k hk => by injection hk with hk; have := Hg1.out; omega)
    have hN8i : (8 : Int) ≤ (N : Int) := by omega
    go_wp2
    go_ret2
    exact ⟨_, rfl, own_row Hown5.out HN.out.symm Hrow.out, Hb5.out⟩

end Go.Proofs.Ytghcmlipbmmfjaa

/- The law SumTells: for every input it returns true and leaves what it was given. No condition. -/
import Derived.Test.YthjlamenfmadjaaSumB
import Derived.Test.YthjlamenfmadjaaOpen
namespace Go.Proofs.Ythjlamenfmadjaa
open Go.RowKit
open Go.Lib (strCells)

theorem byteCells_set (l : List UInt8) (j : Nat) (x : UInt8) : (byteCells l).set j (.int .u8 (x.toNat : Int)) = byteCells (l.set j x) := by
  unfold byteCells
  rw [List.map_set]

/-- a byte, some of its bits turned -/
def turn (x : UInt8) (d k : Nat) : UInt8 := x ^^^ UInt8.ofNat (d * 2 ^ k)
theorem turn_bits (x : UInt8) {y : Nat} (hy : y < 256) : bits .xor .u8 (x.toNat : Int) (y : Int) = ((x ^^^ UInt8.ofNat y).toNat : Int) := by
  have := x.toNat_lt
  rw [u8_xor_nat x.toNat y (by omega) hy, UInt8.toNat_xor, UInt8.toNat_ofNat', Nat.mod_eq_of_lt hy]
theorem pow_small : ∀ k : Fin 8, (2 ^ k.val < 256) ∧ UInt8.ofNat (1 * 2 ^ k.val) ≠ 0 := by decide
theorem pow_small3 : ∀ k : Fin 7, (3 * 2 ^ k.val < 256) ∧ UInt8.ofNat (3 * 2 ^ k.val) ≠ 0 ∧ UInt8.ofNat (3 * 2 ^ k.val) ≠ UInt8.ofNat (1 * 2 ^ k.val) := by decide
theorem pow_cast : ∀ k : Fin 8, ((2 : Int) ^ k.val % 256) = ((2 ^ k.val : Nat) : Int) := by decide
theorem pow_cast3 : ∀ k : Fin 7, (3 * (2 : Int) ^ k.val % 256) = ((3 * 2 ^ k.val : Nat) : Int) := by decide
theorem turn1_bits (x : UInt8) {k : Nat} (hk : k < 8) : bits .xor .u8 (x.toNat : Int) (2 ^ k % 256) = ((turn x 1 k).toNat : Int) := by
  rw [pow_cast ⟨k, hk⟩, turn_bits x (pow_small ⟨k, hk⟩).1, turn, Nat.one_mul]
theorem turn3_bits (x : UInt8) {k : Nat} (hk : k < 7) : bits .xor .u8 (x.toNat : Int) (3 * 2 ^ k % 256) = ((turn x 3 k).toNat : Int) := by
  rw [pow_cast3 ⟨k, hk⟩, turn_bits x (pow_small3 ⟨k, hk⟩).1, turn]
theorem xor_left {x a b : UInt8} (h : x ^^^ a = x ^^^ b) : a = b := by
  have := congrArg (x ^^^ ·) h
  simpa [← UInt8.xor_assoc] using this
theorem turn1_ne (x : UInt8) {k : Nat} (hk : k < 8) : turn x 1 k ≠ x := fun h => (pow_small ⟨k, hk⟩).2 (xor_left (x := x) (by rw [UInt8.xor_zero]; exact h))
theorem turn3_ne (x : UInt8) {k : Nat} (hk : k < 7) : turn x 3 k ≠ x := fun h => (pow_small3 ⟨k, hk⟩).2.1 (xor_left (x := x) (by rw [UInt8.xor_zero]; exact h))
theorem turn31_ne (x : UInt8) {k : Nat} (hk : k < 7) : turn x 3 k ≠ turn x 1 k := fun h => (pow_small3 ⟨k, hk⟩).2.2 (xor_left (x := x) h)
theorem set_self (l : List UInt8) {j : Nat} (hj : j < l.length) : l.set j (l[j]?.getD 0) = l := by
  apply List.ext_getElem
  · simp
  · intro i h1 h2
    rw [List.getElem_set]
    split
    · next e => subst e; simp [hj]
    · rfl
theorem sum_set_ne (l : List UInt8) {j : Nat} (hj : j < l.length) {x : UInt8} (h : x ≠ l[j]?.getD 0) : sumOf (l.set j x) ≠ sumOf l := fun e => h (sum_tells_set l j _ _ hj (by rw [e, set_self l hj]))
theorem ne_eql {a b : Nat} (h : a ≠ b) : ((a : Int) == (b : Int)) = false := by simp; omega
theorem ne_neq {a b : Nat} (h : a ≠ b) : ((a : Int) != (b : Int)) = true := by simp; omega

set_option maxHeartbeats 800000 in
theorem sumTells_walk (A : Option Addr) (n c : Nat) (p t : Int) (l : List UInt8) (w : World) (h : HasBytes w w.heap.size A n l) (hn : n ≤ maxLen) :
    Calls Try.prog 5 #[.slice A n c, .int .i64 p, .int .i64 t] w fun e w' => e = .returned (.bool true) ∧ Below w.heap.size w w' := by
  have hn2 := hn
  unfold maxLen at hn2
  have H := Lib.hid h
  clear h
  by_cases hout : 5000 < (n : Int) ∨ p < 0 ∨ (n : Int) ≤ p ∨ t < 0 ∨ 7 < t
  · have hcases : 5000 < (n : Int) ∨ ((n : Int) ≤ 5000 ∧ p < 0) ∨ ((n : Int) ≤ 5000 ∧ 0 ≤ p ∧ (n : Int) ≤ p) ∨ ((n : Int) ≤ 5000 ∧ 0 ≤ p ∧ p < (n : Int) ∧ t < 0) ∨ ((n : Int) ≤ 5000 ∧ 0 ≤ p ∧ p < (n : Int) ∧ 0 ≤ t ∧ 7 < t) := by omega
    clear hout
    rcases hcases with h1 | ⟨h1, h2⟩ | ⟨h1, h2, h3⟩ | ⟨h1, h2, h3, h4⟩ | ⟨h1, h2, h3, h4, h5⟩
    all_goals
      go_enter Try.func5, Try.ntmps5
      go_wp2_with fail
      refine (awake_any _).mono ?_
      rintro e w1 ⟨rfl, hb1⟩
      go_wp2_with fail
      go_ret
      exact ⟨rfl, hb1⟩
  · obtain ⟨j, rfl⟩ : ∃ j : Nat, p = j := ⟨p.toNat, by omega⟩
    obtain ⟨k, rfl⟩ : ∃ k : Nat, t = k := ⟨t.toNat, by omega⟩
    have hj : j < n := by omega
    have hk : k < 8 := by omega
    have hns : n ≤ 5000 := by omega
    clear hout
    have hjl : j < l.length := by have := H.out.len; omega
    have Hx1 : Hid (bits .xor .u8 ((l[j]?.getD 0).toNat : Int) (2 ^ k % 256) = ((turn (l[j]?.getD 0) 1 k).toNat : Int)) := Lib.hid (turn1_bits _ hk)
    have hn1 := sum_set_ne l hjl (turn1_ne (l[j]?.getD 0) hk)
    have Hq1 := Lib.hid (ne_eql hn1)
    have Hr1 := Lib.hid (ne_neq hn1)
    have Hjl := Lib.hid hjl
    clear hn1 hjl
    go_enter Try.func5, Try.ntmps5
    go_wp2_with fail
    refine (awake_any _).mono ?_
    rintro e w1 ⟨rfl, hb1⟩
    have H1 := Lib.hid (H.out.below hb1)
    have hC1 := hb1.size
    have Hb1 := Lib.hid hb1
    clear hb1 H
    have Hlit := Lib.hid (World.ownsRow_lit (base := w1.heap.size) (e := 5) (size := 1) w1 #[] 0 (Nat.le_refl _) (by simp [maxLen]) rfl)
    have Hbl := Lib.hid ((Below.refl w1.heap.size w1).alloc (Nat.le_refl _) (.cells #[] 5))
    go_wp2_with
      (at_builtin
       refine wpList_append_has rfl (.tmp 32) (.tmp 33) _ rfl 5 u8_elem Try.underlying23 rfl Hlit.out rfl (H1.out.alloc hC1 _) (byteCells_one _) (by simp only [maxLen]; omega) (by omega) (le_alloc (Nat.le_refl _) _) ?_
       intro v2 w2 hown2 hg2 hz2
       clear hz2
       have Hb2 := Lib.hid (below_own Hbl.out Hlit.out hg2 (le_alloc (Nat.le_refl _) _))
       obtain ⟨A2, c2, rfl, hc2, _, _⟩ := own_slice hown2
       have ho : w2.ownsRow w1.heap.size 5 1 (.slice A2 n c2) n (byteCells l) := by simpa using hown2
       obtain ⟨g, hA2, hBg⟩ := own_at ho (by omega)
       subst hA2
       have hc : w2.cell? ⟨g, j, none⟩ = some (.int .u8 ((l[j]?.getD 0).toNat : Int)) := by
         rw [ho.cellAt j (by omega)]
         have := ho.1
         simp [byteCells] at this
         simp [byteCells, show j < l.length from by omega]
       have hf := ho.frozenAt j
       have Ho := Lib.hid ho
       clear ho hown2 hg2)
    have Hc3 : Hid (HasBytes (w2.setCell ⟨g, j, none⟩ (.int .u8 (bits .xor .u8 ((l[j]?.getD 0).toNat : Int) (2 ^ k % 256)))) (w2.setCell ⟨g, j, none⟩ (.int .u8 (bits .xor .u8 ((l[j]?.getD 0).toNat : Int) (2 ^ k % 256)))).heap.size (some ⟨g, 0, none⟩) n (l.set j (turn (l[j]?.getD 0) 1 k))) := by
      have := (Ho.out.stored j (.int .u8 (bits .xor .u8 ((l[j]?.getD 0).toNat : Int) (2 ^ k % 256)))).1
      refine Lib.hid ?_
      have h2 := Has.of_own this
      rw [Hx1.out, byteCells_set] at h2
      rw [Hx1.out]
      exact h2
    have Hb3 : Hid (Below w1.heap.size w1 (w2.setCell ⟨g, j, none⟩ (.int .u8 (bits .xor .u8 ((l[j]?.getD 0).toNat : Int) (2 ^ k % 256))))) := Lib.hid (Hb2.out.setCell hBg _)
    clear hc hf Ho Hb2 Hbl Hlit
    obtain ⟨w3, hw3⟩ : ∃ w3, (w2.setCell ⟨g, j, none⟩ (.int .u8 (bits .xor .u8 ((l[j]?.getD 0).toNat : Int) (2 ^ k % 256)))) = w3 := ⟨_, rfl⟩
    rw [hw3] at Hc3 Hb3 ⊢
    clear hw3
    have H3 := Lib.hid (H1.out.belowOf Hb3.out hC1)
    have hC3 := Nat.le_trans hC1 Hb3.out.size
    have Hw3 := Lib.hid (Hb1.out.trans (Hb3.out.mono hC1))
    refine (of_any _ n _ _ _ w3 Hc3.out hn).mono ?_
    rintro e w' ⟨rfl, rfl⟩
    go_wp2_with fail
    refine (of_any A n c _ l w3 H3.out hn).mono ?_
    rintro e w' ⟨rfl, rfl⟩
    have hq1 := Hq1.out
    by_cases hk6 : 6 < k
    · go_wp2_with fail
      refine (of_any _ n _ _ _ w3 Hc3.out hn).mono ?_
      rintro e w' ⟨rfl, rfl⟩
      go_wp2_with fail
      refine (of_any A n c _ l w3 H3.out hn).mono ?_
      rintro e w' ⟨rfl, rfl⟩
      have hr1 := Hr1.out
      go_wp2
      go_ret
      exact ⟨rfl, Hw3.out⟩
    · have hk7 : k < 7 := by omega
      have hx := Hjl.out
      have Hx3 : Hid (bits .xor .u8 ((l[j]?.getD 0).toNat : Int) (3 * 2 ^ k % 256) = ((turn (l[j]?.getD 0) 3 k).toNat : Int)) := Lib.hid (turn3_bits _ hk7)
      have Hr2 := Lib.hid (ne_neq (sum_set_ne l hx (turn3_ne (l[j]?.getD 0) hk7)))
      have Hr3 := Lib.hid (ne_neq (a := sumOf (l.set j (turn (l[j]?.getD 0) 3 k))) (b := sumOf (l.set j (turn (l[j]?.getD 0) 1 k))) (fun h => turn31_ne (l[j]?.getD 0) hk7 (sum_tells_set l j _ _ hx h)))
      clear hx
      have Hlit := Lib.hid (World.ownsRow_lit (base := w3.heap.size) (e := 5) (size := 1) w3 #[] 0 (Nat.le_refl _) (by simp [maxLen]) rfl)
      have Hbl := Lib.hid ((Below.refl w3.heap.size w3).alloc (Nat.le_refl _) (.cells #[] 5))
      go_wp2_with
        (at_builtin
         refine wpList_append_has rfl (.tmp 60) (.tmp 61) _ rfl 5 u8_elem Try.underlying23 rfl Hlit.out rfl (H3.out.alloc hC3 _) (byteCells_one _) (by simp only [maxLen]; omega) (by omega) (le_alloc (Nat.le_refl _) _) ?_
         intro v4 w4 hown4 hg4 hz4
         clear hz4
         have Hb4 := Lib.hid (below_own Hbl.out Hlit.out hg4 (le_alloc (Nat.le_refl _) _))
         obtain ⟨A4, c4, rfl, hc4, _, _⟩ := own_slice hown4
         have ho : w4.ownsRow w3.heap.size 5 1 (.slice A4 n c4) n (byteCells l) := by simpa using hown4
         obtain ⟨g4, hA4, hBg4⟩ := own_at ho (by omega)
         subst hA4
         have hc : w4.cell? ⟨g4, j, none⟩ = some (.int .u8 ((l[j]?.getD 0).toNat : Int)) := by
           rw [ho.cellAt j (by omega)]
           have := ho.1
           simp [byteCells] at this
           simp [byteCells, show j < l.length from by omega]
         have hf := ho.frozenAt j
         have Ho := Lib.hid ho
         clear ho hown4 hg4)
      have Hc5 : Hid (HasBytes (w4.setCell ⟨g4, j, none⟩ (.int .u8 (bits .xor .u8 ((l[j]?.getD 0).toNat : Int) (3 * 2 ^ k % 256)))) (w4.setCell ⟨g4, j, none⟩ (.int .u8 (bits .xor .u8 ((l[j]?.getD 0).toNat : Int) (3 * 2 ^ k % 256)))).heap.size (some ⟨g4, 0, none⟩) n (l.set j (turn (l[j]?.getD 0) 3 k))) := by
        have := (Ho.out.stored j (.int .u8 (bits .xor .u8 ((l[j]?.getD 0).toNat : Int) (3 * 2 ^ k % 256)))).1
        refine Lib.hid ?_
        have h2 := Has.of_own this
        rw [Hx3.out, byteCells_set] at h2
        rw [Hx3.out]
        exact h2
      have Hb5 : Hid (Below w3.heap.size w3 (w4.setCell ⟨g4, j, none⟩ (.int .u8 (bits .xor .u8 ((l[j]?.getD 0).toNat : Int) (3 * 2 ^ k % 256))))) := Lib.hid (Hb4.out.setCell hBg4 _)
      clear hc hf Ho Hb4 Hbl Hlit
      obtain ⟨w5, hw5⟩ : ∃ w5, (w4.setCell ⟨g4, j, none⟩ (.int .u8 (bits .xor .u8 ((l[j]?.getD 0).toNat : Int) (3 * 2 ^ k % 256)))) = w5 := ⟨_, rfl⟩
      rw [hw5] at Hc5 Hb5 ⊢
      clear hw5
      have H5 := Lib.hid (H3.out.belowOf Hb5.out hC3)
      have Hc5' := Lib.hid (Hc3.out.below Hb5.out)
      have Hw5 := Lib.hid (Hw3.out.trans (Hb5.out.mono hC3))
      refine (of_any _ n _ _ _ w5 Hc5.out hn).mono ?_
      rintro e w' ⟨rfl, rfl⟩
      go_wp2_with fail
      refine (of_any A n c _ l w5 H5.out hn).mono ?_
      rintro e w' ⟨rfl, rfl⟩
      have hr2 := Hr2.out
      go_wp2_with fail
      refine (of_any _ n _ _ _ w5 Hc5.out hn).mono ?_
      rintro e w' ⟨rfl, rfl⟩
      go_wp2_with fail
      refine (of_any _ n _ _ _ w5 Hc5'.out hn).mono ?_
      rintro e w' ⟨rfl, rfl⟩
      have hr3 := Hr3.out
      go_wp2
      go_ret
      exact ⟨rfl, Hw5.out⟩

namespace lawSumTells
open Go.ChangeShapes Go.WideShapes Go.ChangeAt

theorem own : ownKnob Try.prog.godebug = none := by kernel_rfl
theorem kids : Kids Try.prog (· < Try.prog.types.size) := kids_rows (by kernel_rfl) (by kernel_rfl)
theorem full : ∀ t e, t < Try.prog.types.size → Try.prog.underlying t = some (.slice e) → 0 < Try.prog.cellsOf e := slices_full_of Try.prog (by kernel_rfl)

set_option maxRecDepth 100000 in
theorem lifted (os : Os) (started : os.Started) (H : Type) (enc : TypeId × Value → H) :
    ReturnsInHanded {} Try.checked os 5 .any (Rows.sumTellsSpec.pre6 enc Try.prog Try.f5 Rows.sumTellsRow.domain false) (Rows.sumTellsSpec.post enc Try.prog Try.f5 false true false false) := by
  refine returnsInHanded_of_change (C := Try.checked) own started (by kernel_rfl) Try.func5
    (ChangeSpec.witness6 (enc := enc) (C := Try.checked) false ⟨#[], #[.slice none 0 0, .int .i64 0, .int .i64 0], []⟩ 8 (by kernel_rfl) (by kernel_rfl) (by kernel_rfl) (by kernel_rfl)) ?_
  intro W base args ds gs before hval0 hW _ _
  have hval : ∀ (j : Nat) t v, Try.f5.params[j]? = some t → args[j]? = some v → Value.okWide Try.prog W .any base t v := hval0
  have hW' := hW
  obtain ⟨p, q, hA0, hV, rfl, _, _⟩ := hW
  obtain ⟨rfl, rfl⟩ := trodVars_none hV
  have hA : DataW.TrodAll enc Try.prog W 0 (fun _ => true) true Try.f5.params.toList args.toList ds p := hA0
  rw [Try.params5] at hA hval
  obtain ⟨v0, vs0, d0, ds0, p0, q0, hargs, rfl, rfl, h0, r0⟩ := trodAll_cons hA
  obtain ⟨v1, vs1, d1, ds1, p1, q1, rfl, rfl, rfl, h1, r1⟩ := trodAll_cons r0
  obtain ⟨v2, vs2, d2, ds2, p2, q2, rfl, rfl, rfl, h2, r2⟩ := trodAll_cons r1
  obtain ⟨rfl, rfl, rfl⟩ := trodAll_nil r2
  obtain rfl : args = #[v0, v1, v2] := by cases args; simp_all
  have hlt := hW'.lt
  obtain ⟨A0, n0, c0, l0, rfl, hn0, hnc0, hb0⟩ := open_bytes Try.underlying23 Try.underlying5 (by kernel_rfl) (hval 0 23 v0 rfl rfl) h0 (fun x hx => hlt x (by simp [hx]))
  obtain ⟨k1, rfl, _, _, _⟩ := open_int Try.underlying3 (hval 1 3 v1 rfl rfl) h1
  obtain ⟨k2, rfl, _, _, _⟩ := open_int Try.underlying3 (hval 2 3 v2 rfl rfl) h2
  refine (sumTells_walk A0 n0 c0 k1 k2 l0 W hb0 hn0).mono fun e W' ⟨he, hbel⟩ => ?_
  subst he
  exact ⟨_, rfl, law_post kids full (of_decide_eq_true (by kernel_rfl)) Try.underlying4 rfl rfl rfl hW' hbel⟩

theorem proved : Rows.SumTellsSaid :=
  OpenClaim.holds_of_wide 5 Try.f5 rfl rfl rfl rfl rfl rfl rfl ⟨rfl, rfl, rfl, rfl, rfl⟩ rfl rfl rfl rfl rfl (by kernel_rfl) Try.func5 (by kernel_rfl)
    (of_decide_eq_true (by kernel_rfl)) (by unfold Func.isWrapper; first | (rw [if_pos (by decide +kernel)]; kernel_rfl) | (rw [if_neg (by decide +kernel)]; exact ⟨rfl, rfl⟩))
    (fun os started H enc _ => lifted os started H enc)
end lawSumTells

end Go.Proofs.Ythjlamenfmadjaa

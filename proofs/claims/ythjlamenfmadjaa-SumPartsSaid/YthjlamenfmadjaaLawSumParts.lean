/- The law SumParts: for every input it returns true and leaves what it was given. No condition. -/
import Derived.Test.YthjlamenfmadjaaSumB
import Derived.Test.YthjlamenfmadjaaOpen
namespace Go.Proofs.Ythjlamenfmadjaa
open Go.RowKit
open Go.Lib (strCells)

/-- the cells of a row of ints -/
def intCells (l : List Int) : List Value := l.map (Value.int .i64)

set_option maxHeartbeats 800000 in
theorem sumParts_walk (A D : Option Addr) (n c n' c' : Nat) (l : List UInt8) (zs : List Int) (w : World) (h : HasBytes w w.heap.size A n l) (hn : n ≤ maxLen) (hnc : n ≤ c)
    (h' : Has w w.heap.size D n' (intCells zs)) (hn' : n' ≤ maxLen) :
    Calls Try.prog 4 #[.slice A n c, .slice D n' c'] w fun e w' => e = .returned (.bool true) ∧ Below w.heap.size w w' := by
  have hn2 := hn
  have hn2' := hn'
  unfold maxLen at hn2 hn2'
  have H := Lib.hid h
  have H' := Lib.hid h'
  clear h h'
  by_cases hbig : 5000 < n
  · go_enter Try.func4, Try.ntmps4
    go_wp2_with fail
    refine (awake_any _).mono ?_
    rintro e w1 ⟨rfl, hb1⟩
    go_wp2_with fail
    go_ret
    exact ⟨rfl, hb1⟩
  · by_cases hbig' : 50 < n'
    · go_enter Try.func4, Try.ntmps4
      go_wp2_with fail
      refine (awake_any _).mono ?_
      rintro e w1 ⟨rfl, hb1⟩
      go_wp2_with fail
      go_ret
      exact ⟨rfl, hb1⟩
    · go_enter Try.func4, Try.ntmps4
      go_wp2_with fail
      refine (awake_any _).mono ?_
      rintro e w1 ⟨rfl, hb1⟩
      have H1 := Lib.hid (H.out.below hb1)
      have H1' := Lib.hid (H'.out.below hb1)
      have Hl := Lib.hid H.out.len
      have Hz : Hid (zs.length = n') := Lib.hid (by have := H'.out.1; simpa [intCells] using this)
      have Hb1 := Lib.hid hb1
      clear hb1 H H'
      have H0 : Hid (sumMore 0 (l.take 0) = 0) := Lib.hid (by rw [List.take_zero]; exact sumMore_nil (by omega))
      have Happ : Hid (∀ p q : Nat, p ≤ q → sumMore (sumMore 0 (l.take p)) ((l.drop p).take (q - p)) = sumMore 0 (l.take q)) := Lib.hid fun p q hpq => by
        rw [sumMore_app (by omega), ← List.drop_take, show List.take p l = List.take p (List.take q l) from by rw [List.take_take, Nat.min_eq_left hpq], List.take_append_drop]
      have Hend : Hid (∀ p : Nat, sumMore (sumMore 0 (l.take p)) (l.drop p) = sumOf l) := Lib.hid fun p => by
        rw [sumMore_app (by omega), List.take_append_drop]; rfl
      have Hlt : Hid (∀ s L, sumMore s L < 4294967296) := Lib.hid sumMore_lt
      go_wp2
      go_loop [5, 6, 7] (fun s at_ i => ∃ (k p : Nat), k ≤ n' ∧ p ≤ n ∧ i = .int .i64 (k : Int) ∧ at_ = .int .i64 (p : Int) ∧ s = .int .u32 (sumMore 0 (l.take p) : Int)) (fun _ _ i => n' - (intOf i).toNat)
      case atStart => exact ⟨0, 0, by omega, by omega, rfl, rfl, by rw [H0.out]; rfl⟩
      case round =>
        obtain ⟨k, p, hk, hp, rfl, rfl, rfl⟩ := hrel
        by_cases hlt : k < n'
        · obtain ⟨a, rfl, _, hc0⟩ := H1'.out.cell hlt
          obtain ⟨z, hz⟩ : ∃ z, zs[k]?.getD 0 = z := ⟨_, rfl⟩
          have hc : w1.cell? (a.add k) = some (.int .i64 z) := by
            rw [hc0, ← hz]
            have := Hz.out
            simp [intCells, show k < zs.length from by omega]
          clear hc0 hz
          by_cases hz1 : (p : Int) ≤ z
          · by_cases hz2 : z ≤ (n : Int)
            · obtain ⟨q, rfl⟩ : ∃ q : Nat, z = q := ⟨z.toNat, by omega⟩
              have hpart : HasBytes w1 w.heap.size (if c = p then A else A.map (·.add p)) (q - p) ((l.drop p).take (q - p)) := HasBytes.head (HasBytes.part H1.out hp hnc) (by omega)
              obtain ⟨A', hA⟩ : ∃ A', (if c = p then A else A.map (·.add p)) = A' := ⟨_, rfl⟩
              rw [hA] at hpart
              have Hpart := Lib.hid hpart
              clear hpart
              go_wp2_with fail
              refine (more_any A' (q - p) (c - p) _ _ _ w1 Hpart.out (by unfold maxLen; omega) (Hlt.out _ _)).mono ?_
              rintro e w' ⟨rfl, rfl⟩
              go_wp2
              go_round
              case rel => exact ⟨k + 1, q, by omega, by omega, by go_num, rfl, by rw [Happ.out p q (by omega)]⟩
              case measure => simp [intOf]; omega
            · go_wp2
              go_round
              case rel => exact ⟨k + 1, p, by omega, by omega, by go_num, rfl, rfl⟩
              case measure => simp [intOf]; omega
          · go_wp2
            go_round
            case rel => exact ⟨k + 1, p, by omega, by omega, by go_num, rfl, rfl⟩
            case measure => simp [intOf]; omega
        · have hpart : HasBytes w1 w.heap.size (if c = p then A else A.map (·.add p)) (n - p) (l.drop p) := HasBytes.part H1.out hp hnc
          obtain ⟨A', hA⟩ : ∃ A', (if c = p then A else A.map (·.add p)) = A' := ⟨_, rfl⟩
          rw [hA] at hpart
          have Hpart := Lib.hid hpart
          clear hpart
          go_wp2_with fail
          refine (more_any A' (n - p) (c - p) _ _ _ w1 Hpart.out (by unfold maxLen; omega) (Hlt.out _ _)).mono ?_
          rintro e w' ⟨rfl, rfl⟩
          rw [Hend.out]
          go_wp2_with fail
          refine (of_any A n c _ l w1 H1.out hn).mono ?_
          rintro e w' ⟨rfl, rfl⟩
          go_wp2
          go_ret
          exact ⟨rfl, Hb1.out⟩

namespace lawSumParts
open Go.ChangeShapes Go.WideShapes Go.ChangeAt

theorem own : ownKnob Try.prog.godebug = none := by kernel_rfl
theorem kids : Kids Try.prog (· < Try.prog.types.size) := kids_rows (by kernel_rfl) (by kernel_rfl)
theorem full : ∀ t e, t < Try.prog.types.size → Try.prog.underlying t = some (.slice e) → 0 < Try.prog.cellsOf e := slices_full_of Try.prog (by kernel_rfl)

set_option maxRecDepth 100000 in
theorem lifted (os : Os) (started : os.Started) (H : Type) (enc : TypeId × Value → H) :
    ReturnsInHanded {} Try.checked os 4 .any (Rows.sumPartsSpec.pre6 enc Try.prog Try.f4 Rows.sumPartsRow.domain false) (Rows.sumPartsSpec.post enc Try.prog Try.f4 false true false false) := by
  refine returnsInHanded_of_change (C := Try.checked) own started (by kernel_rfl) Try.func4
    (ChangeSpec.witness6 (enc := enc) (C := Try.checked) false ⟨#[], #[.slice none 0 0, .slice none 0 0], []⟩ 8 (by kernel_rfl) (by kernel_rfl) (by kernel_rfl) (by kernel_rfl)) ?_
  intro W base args ds gs before hval0 hW _ _
  have hval : ∀ (j : Nat) t v, Try.f4.params[j]? = some t → args[j]? = some v → Value.okWide Try.prog W .any base t v := hval0
  have hW' := hW
  obtain ⟨p, q, hA0, hV, rfl, _, _⟩ := hW
  obtain ⟨rfl, rfl⟩ := trodVars_none hV
  have hA : DataW.TrodAll enc Try.prog W 0 (fun _ => true) true Try.f4.params.toList args.toList ds p := hA0
  rw [Try.params4] at hA hval
  obtain ⟨v0, vs0, d0, ds0, p0, q0, hargs, rfl, rfl, h0, r0⟩ := trodAll_cons hA
  obtain ⟨v1, vs1, d1, ds1, p1, q1, rfl, rfl, rfl, h1, r1⟩ := trodAll_cons r0
  obtain ⟨rfl, rfl, rfl⟩ := trodAll_nil r1
  obtain rfl : args = #[v0, v1] := by cases args; simp_all
  have hlt := hW'.lt
  obtain ⟨A0, n0, c0, l0, rfl, hn0, hnc0, hb0⟩ := open_bytes Try.underlying23 Try.underlying5 (by kernel_rfl) (hval 0 23 v0 rfl rfl) h0 (fun x hx => hlt x (by simp [hx]))
  obtain ⟨A1, n1, c1, zs1, rfl, hn1, hnc1, hb1, hw1⟩ := open_nums Try.underlying28 Try.underlying3 (by kernel_rfl) (hval 1 28 v1 rfl rfl) h1 (fun x hx => hlt x (by simp [hx]))
  refine (sumParts_walk A0 A1 n0 c0 n1 c1 l0 zs1 W hb0 hn0 hnc0 hb1 hn1).mono fun e W' ⟨he, hbel⟩ => ?_
  subst he
  exact ⟨_, rfl, law_post kids full (of_decide_eq_true (by kernel_rfl)) Try.underlying4 rfl rfl rfl hW' hbel⟩

theorem proved : Rows.SumPartsSaid :=
  OpenClaim.holds_of_wide 4 Try.f4 rfl rfl rfl rfl rfl rfl rfl ⟨rfl, rfl, rfl, rfl, rfl⟩ rfl rfl rfl rfl rfl (by kernel_rfl) Try.func4 (by kernel_rfl)
    (of_decide_eq_true (by kernel_rfl)) (by unfold Func.isWrapper; first | (rw [if_pos (by decide +kernel)]; kernel_rfl) | (rw [if_neg (by decide +kernel)]; exact ⟨rfl, rfl⟩))
    (fun os started H enc _ => lifted os started H enc)
end lawSumParts

end Go.Proofs.Ythjlamenfmadjaa

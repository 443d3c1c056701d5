/- Is one of the lists no run? (slices.ContainsFunc with run.wrong.) Condition: the rows are in memory. -/
import Derived.Test.YteioopcacpihpaaRunA
namespace Go.Proofs.Yteioopcacpihpaa
open Go.RowKit
open Go.Lib (strCells compareBytes)

def WrongPost (L : List (List Chg)) (w : World) (e : Ending) (w' : World) : Prop := ∃ i : Int, e = .returned (.int .i64 i) ∧ decide (0 ≤ i) = !L.all runB ∧ Below w.heap.size w w'
theorem all_runB {L : List (List Chg)} : L.all runB = true ↔ ∀ r ∈ L, Run r := by
  rw [List.all_eq_true]
  exact ⟨fun h r hr => runB_iff.1 (h r hr), fun h r hr => runB_iff.2 (h r hr)⟩
set_option maxRecDepth 100000 in
theorem indexWrong_any (A : Option Addr) (n c B : Nat) (rs : Crs) (w : World) (h : HasCrs w B A n rs) (hn : n ≤ maxLen) (hw : B ≤ w.heap.size) :
    Calls Try.prog 76 #[.slice A n c, .func (.func 51) #[] #[]] w (WrongPost (crLists rs) w) := by
  unfold maxLen at hn
  have H := Lib.hid h
  have Hl : Hid ((crLists rs).length = n) := Lib.hid (by rw [crLists_len]; exact h.len)
  clear h
  go_enter Try.func76, Try.ntmps76
  go_wp2
  go_loopw [5, 8] (fun _ i wr => ∃ k : Nat, k ≤ n ∧ i = .int .i64 (k : Int) ∧ Hid (∀ r ∈ (crLists rs).take k, Run r) ∧ Below w.heap.size w wr) (fun _ i _ => n - (intOf i).toNat)
  case atStart => exact ⟨0, by omega, rfl, Lib.hid (by simp), Below.refl _ _⟩
  case round =>
    obtain ⟨k, hk, rfl, Hp, hb⟩ := hrel
    have Hb := Lib.hid hb
    have hsz := hb.size
    clear hb
    by_cases hlt : k < n
    · obtain ⟨a, A1, m1, c1, l, rfl, hab, hg, h1, h2, h3, d0, -⟩ := (H.out.belowOf Hb.out hw).at_ hlt
      have Hg := Lib.hid hg
      have Hc := Lib.hid (wrong_any A1 m1 c1 B l wr h3 (by omega) (Nat.le_trans hw hsz))
      clear hg h3 h2
      by_cases hrun : Run l
      · have Hp1 : Hid (∀ r ∈ (crLists rs).take (k + 1), Run r) := Lib.hid (by
          rw [List.take_add_one, Hg.out]
          intro x hx
          rcases List.mem_append.1 hx with hx | hx
          · exact Hp.out x hx
          · simp at hx; subst hx; exact hrun)
        rw [runB_true hrun] at Hc
        clear hrun
        go_wp2_with fail
        refine Hc.out.mono ?_
        rintro e w1 ⟨rfl, hb1⟩
        have Hb1 := Lib.hid (Hb.out.trans (hb1.mono hsz))
        clear hb1
        go_wp2
        go_roundw
        case rel => exact ⟨k + 1, by omega, by go_num, Hp1, Hb1.out⟩
        case measure => simp [intOf]; omega
      · have E : Hid (decide ((0 : Int) ≤ (k : Int)) = !(crLists rs).all runB) := Lib.hid (by
          have : (crLists rs).all runB = false := by
            rw [← Bool.not_eq_true]
            exact fun ha => hrun (all_runB.1 ha l (List.mem_of_getElem? Hg.out))
          rw [this]
          simp)
        rw [runB_false hrun] at Hc
        clear hrun
        go_wp2_with fail
        refine Hc.out.mono ?_
        rintro e w1 ⟨rfl, hb1⟩
        have Hb1 := Lib.hid (Hb.out.trans (hb1.mono hsz))
        clear hb1
        go_wp2
        go_ret
        exact ⟨k, rfl, E.out, Hb1.out⟩
    · have E : Hid (decide ((0 : Int) ≤ -1) = !(crLists rs).all runB) := Lib.hid (by
        have : (crLists rs).all runB = true := all_runB.2 (by have := Hp.out; rwa [List.take_of_length_le (by have := Hl.out; omega)] at this)
        rw [this]
        rfl)
      obtain rfl : k = n := by omega
      go_wp2
      go_ret
      exact ⟨-1, rfl, E.out, Hb.out⟩

theorem anyWrong_any (A : Option Addr) (n c B : Nat) (rs : Crs) (w : World) (h : HasCrs w B A n rs) (hn : n ≤ maxLen) (hw : B ≤ w.heap.size) :
    Calls Try.prog 50 #[.slice A n c, .func (.func 51) #[] #[]] w fun e w' => e = .returned (.bool (!(crLists rs).all runB)) ∧ Below w.heap.size w w' := by
  have H := Lib.hid h
  clear h
  go_enter Try.func50, Try.ntmps50
  go_wp2_with fail
  refine (indexWrong_any A n c B rs w H.out hn hw).mono ?_
  rintro e w1 ⟨i, rfl, hi, hb1⟩
  have Hi := Lib.hid hi
  have Hb1 := Lib.hid hb1
  clear hi hb1
  go_wp2
  go_ret
  exact ⟨ret_bool Hi.out, Hb1.out⟩
end Go.Proofs.Yteioopcacpihpaa

/- Light, the checks of rows of the program and of the document, and Same, give what the plain text (SpecTuple) gives. Condition: the rows are in memory. -/
import Derived.Test.YtdfhnjocpfjagaaTupB
import Derived.Outline
namespace Go.Proofs.Ytdfhnjocpfjagaa
open Go.RowKit
open Go.Lib (strCells compareBytes)

def LightPost (l : List TVal) (most : Nat) (w : World) (e : Ending) (w' : World) : Prop := ∃ b : Bool, e = .returned (.bool b) ∧ (b = true → l.length ≤ most + 1) ∧ w = w'
theorem light_any (A : Option Addr) (n c B most : Nat) (l : List TVal) (w : World) (h : HasVals w B A n l) (hn : n ≤ maxLen) (hm : most ≤ 2000) (hs : ∀ v ∈ l, v.s.size ≤ maxLen) :
    Calls Try.prog 27 #[.slice A n c, .int .i64 (most : Int)] w (LightPost l most w) := by
  unfold maxLen at hn hs
  have Hs := Lib.hid hs
  have H := Lib.hid h
  clear hs h
  have Hl := Lib.hid H.out.1
  go_enter Try.func27, Try.ntmps27
  go_wp2
  go_loop [5, 6] (fun t i => ∃ (k s : Nat), k ≤ n ∧ k ≤ most + 1 ∧ s ≤ most ∧ i = .int .i64 (k : Int) ∧ t = .int .i64 (s : Int)) (fun _ i => n - (intOf i).toNat)
  case atStart => exact ⟨0, 0, by omega, by omega, by omega, rfl, rfl⟩
  case round =>
    obtain ⟨k, t, hk, hkm, ht, rfl, rfl⟩ := hrel
    by_cases hlt : k < n
    · obtain ⟨a, v, rfl, _, hv, c0, c1, c2⟩ := H.out.at_ hlt
      have hvs := Hs.out v (List.mem_of_getElem? hv)
      clear hv c0 c1
      by_cases h1 : most < v.s.size
      · go_wp2
        go_ret
        exact ⟨false, rfl, by simp, rfl⟩
      · by_cases h2 : most < k
        · go_wp2
          go_ret
          exact ⟨false, rfl, by simp, rfl⟩
        · by_cases h3 : most < t + v.s.size
          · go_wp2
            go_ret
            exact ⟨false, rfl, by simp, rfl⟩
          · go_wp2
            go_round
            case rel => exact ⟨k + 1, t + v.s.size, by omega, by omega, by omega, by go_num, by go_num⟩
            case measure => simp [intOf]; omega
    · obtain rfl : k = n := by omega
      go_wp2
      go_ret
      exact ⟨true, rfl, fun _ => by have := Hl.out; omega, rfl⟩

theorem rowErr_many {l : List TVal} (h : 4 < l.length) : rowErr l = 4 := if_pos h
theorem rowErr_bad {l : List TVal} {k : Nat} {v : TVal} (h : l.length ≤ 4) (hv : l[k]? = some v) (hb : goodV v = false) : rowErr l = 1 := by
  unfold rowErr
  rw [if_neg (by omega), if_neg]
  intro ha
  have := List.all_eq_true.1 ha v (List.mem_of_getElem? hv)
  rw [hb] at this
  cases this
theorem all_take_succ {l : List TVal} {k : Nat} {v : TVal} (h : ∀ x ∈ l.take k, goodV x = true) (hv : l[k]? = some v) (hg : goodV v = true) : ∀ x ∈ l.take (k + 1), goodV x = true := by
  intro x hx
  rw [List.take_add_one, hv] at hx
  rcases List.mem_append.1 hx with hx | hx
  · exact h x hx
  · simp at hx
    subst hx
    exact hg

theorem refRow_any (A : Option Addr) (n c B : Nat) (l : List TVal) (w : World) (h : HasVals w B A n l) (hn : n ≤ maxLen) (hw : B ≤ w.heap.size) :
    Calls Try.prog 70 #[.slice A n c] w fun e w' => e = .returned (.int .i64 (rowErr l : Int)) ∧ Below w.heap.size w w' := by
  unfold maxLen at hn
  have H := Lib.hid h
  clear h
  have Hl := Lib.hid H.out.1
  by_cases hn4 : 4 < n
  · have E : Hid (rowErr l = 4) := Lib.hid (rowErr_many (by have := Hl.out; omega))
    go_enter Try.func70, Try.ntmps70
    go_wp2
    go_ret
    exact ⟨ret_i64 (by rw [E.out]; rfl), Below.refl _ _⟩
  · go_enter Try.func70, Try.ntmps70
    go_wp2
    go_loopw [3] (fun i wr => ∃ k : Nat, k ≤ n ∧ i = .int .i64 (k : Int) ∧ Hid (∀ v ∈ l.take k, goodV v = true) ∧ Below w.heap.size w wr) (fun i _ => n - (intOf i).toNat)
    case atStart => exact ⟨0, by omega, rfl, Lib.hid (by simp), Below.refl _ _⟩
    case round =>
      obtain ⟨k, hk, rfl, Hg, hb⟩ := hrel
      by_cases hlt : k < n
      · have H1 := Lib.hid (H.out.belowOf hb hw)
        obtain ⟨a, v, rfl, _, hv, c0, c1, c2⟩ := H1.out.at_ hlt
        have Hv := Lib.hid hv
        have Hb := Lib.hid hb
        have hsz := hb.size
        clear hv hb
        cases hg : goodB v.k v.n v.s with
        | true =>
          have Hgv : Hid (goodV v = true) := Lib.hid hg
          go_wp2_with fail
          refine (refGood_any _ _ _ _).mono ?_
          rintro e w1 ⟨rfl, hb1⟩
          have Hb1 := Lib.hid (Hb.out.trans (hb1.mono hsz))
          clear hb1
          go_wp2
          go_roundw
          case rel => exact ⟨k + 1, by omega, by go_num, Lib.hid (all_take_succ Hg.out Hv.out Hgv.out), Hb1.out⟩
          case measure => simp [intOf]; omega
        | false =>
          have E : Hid (rowErr l = 1) := Lib.hid (rowErr_bad (by have := Hl.out; omega) Hv.out hg)
          go_wp2_with fail
          refine (refGood_any _ _ _ _).mono ?_
          rintro e w1 ⟨rfl, hb1⟩
          have Hb1 := Lib.hid (Hb.out.trans (hb1.mono hsz))
          clear hb1
          go_wp2
          go_ret
          exact ⟨ret_i64 (by rw [E.out]; rfl), Hb1.out⟩
      · obtain rfl : k = n := by omega
        have E : Hid (rowErr l = 0) := Lib.hid (rowErr_ok.2 ⟨by have := Hl.out; omega, by have := Hg.out; rwa [List.take_of_length_le (by have := Hl.out; omega)] at this⟩)
        have Hb := Lib.hid hb
        clear hb
        go_wp2
        go_ret
        exact ⟨ret_i64 (by rw [E.out]; rfl), Hb.out⟩

theorem checkFn_any (k n : Int) (s : ByteArray) (w : World) :
    Calls Try.prog 105 #[.agg #[.int .i64 k, .int .i64 n, .string s]] w fun e w' => e = .returned (.bool (!goodB k n s)) ∧ Below w.heap.size w w' := by
  go_enter Try.func105, Try.ntmps105
  go_wp2_with fail
  refine (good_any _ _ _ _).mono ?_
  rintro e w1 ⟨rfl, hb1⟩
  have Hb1 := Lib.hid ((below_box _).trans (hb1.mono (by simp)))
  clear hb1
  go_wp2
  go_ret
  exact ⟨rfl, Hb1.out⟩

def IdxPost (l : List TVal) (w : World) (e : Ending) (w' : World) : Prop := ∃ i : Int, e = .returned (.int .i64 i) ∧ decide (0 ≤ i) = !l.all goodV ∧ Below w.heap.size w w'
theorem indexFunc_any (A : Option Addr) (n c B : Nat) (l : List TVal) (w : World) (h : HasVals w B A n l) (hn : n ≤ maxLen) (hw : B ≤ w.heap.size) :
    Calls Try.prog 113 #[.slice A n c, .func (.func 105) #[] #[]] w (IdxPost l w) := by
  unfold maxLen at hn
  have H := Lib.hid h
  clear h
  have Hl := Lib.hid H.out.1
  go_enter Try.func113, Try.ntmps113
  go_wp2
  go_loopw [5, 8] (fun _ i wr => ∃ k : Nat, k ≤ n ∧ i = .int .i64 (k : Int) ∧ Hid (∀ v ∈ l.take k, goodV v = true) ∧ Below w.heap.size w wr) (fun _ i _ => n - (intOf i).toNat)
  case atStart => exact ⟨0, by omega, rfl, Lib.hid (by simp), Below.refl _ _⟩
  case round =>
    obtain ⟨k, hk, rfl, Hg, hb⟩ := hrel
    by_cases hlt : k < n
    · have H1 := Lib.hid (H.out.belowOf hb hw)
      obtain ⟨a, v, rfl, _, hv, c0, c1, c2⟩ := H1.out.at_ hlt
      have Hv := Lib.hid hv
      have Hb := Lib.hid hb
      have hsz := hb.size
      clear hv hb
      cases hg : goodB v.k v.n v.s with
      | true =>
        have Hgv : Hid (goodV v = true) := Lib.hid hg
        go_wp2_with fail
        refine (checkFn_any _ _ _ _).mono ?_
        rintro e w1 ⟨rfl, hb1⟩
        have Hb1 := Lib.hid (Hb.out.trans (hb1.mono hsz))
        clear hb1
        go_wp2
        go_roundw
        case rel => exact ⟨k + 1, by omega, by go_num, Lib.hid (all_take_succ Hg.out Hv.out Hgv.out), Hb1.out⟩
        case measure => simp [intOf]; omega
      | false =>
        have E : Hid (decide ((0 : Int) ≤ (k : Int)) = !l.all goodV) := Lib.hid (by
          have : l.all goodV = false := by
            rw [← Bool.not_eq_true]
            intro ha
            have := List.all_eq_true.1 ha v (List.mem_of_getElem? Hv.out)
            rw [show goodV v = goodB v.k v.n v.s from rfl, hg] at this
            cases this
          rw [this]
          simp)
        go_wp2_with fail
        refine (checkFn_any _ _ _ _).mono ?_
        rintro e w1 ⟨rfl, hb1⟩
        have Hb1 := Lib.hid (Hb.out.trans (hb1.mono hsz))
        clear hb1
        go_wp2
        go_ret
        exact ⟨k, rfl, E.out, Hb1.out⟩
    · obtain rfl : k = n := by omega
      have E : Hid (decide ((0 : Int) ≤ -1) = !l.all goodV) := Lib.hid (by
        have : l.all goodV = true := List.all_eq_true.2 (by have := Hg.out; rwa [List.take_of_length_le (by have := Hl.out; omega)] at this)
        rw [this]
        rfl)
      have Hb := Lib.hid hb
      clear hb
      go_wp2
      go_ret
      exact ⟨-1, rfl, E.out, Hb.out⟩

theorem containsFunc_any (A : Option Addr) (n c B : Nat) (l : List TVal) (w : World) (h : HasVals w B A n l) (hn : n ≤ maxLen) (hw : B ≤ w.heap.size) :
    Calls Try.prog 83 #[.slice A n c, .func (.func 105) #[] #[]] w fun e w' => e = .returned (.bool (!l.all goodV)) ∧ Below w.heap.size w w' := by
  have H := Lib.hid h
  clear h
  go_enter Try.func83, Try.ntmps83
  go_wp2_with fail
  refine (indexFunc_any A n c B l w H.out hn hw).mono ?_
  rintro e w1 ⟨i, rfl, hi, hb1⟩
  have Hi := Lib.hid hi
  have Hb1 := Lib.hid hb1
  clear hi hb1
  go_wp2
  go_ret
  exact ⟨ret_bool Hi.out, Hb1.out⟩

theorem check_any (A : Option Addr) (n c B : Nat) (l : List TVal) (w : World) (h : HasVals w B A n l) (hn : n ≤ maxLen) (hw : B ≤ w.heap.size) :
    Calls Try.prog 68 #[.slice A n c] w fun e w' => e = .returned (.int .i64 (rowErr l : Int)) ∧ Below w.heap.size w w' := by
  have H := Lib.hid h
  clear h
  have Hl := Lib.hid H.out.1
  by_cases hn4 : 4 < n
  · have E : Hid (rowErr l = 4) := Lib.hid (rowErr_many (by have := Hl.out; omega))
    go_enter Try.func68, Try.ntmps68
    go_wp2
    go_ret
    exact ⟨ret_i64 (by rw [E.out]; rfl), Below.refl _ _⟩
  · have Hcall := Lib.hid (containsFunc_any A n c B l w H.out hn hw)
    cases hg : l.all goodV with
    | true =>
      have E : Hid (rowErr l = 0) := Lib.hid (rowErr_ok.2 ⟨by have := Hl.out; omega, List.all_eq_true.1 hg⟩)
      rw [hg] at Hcall
      clear hg
      go_enter Try.func68, Try.ntmps68
      go_wp2_with fail
      refine Hcall.out.mono ?_
      rintro e w1 ⟨rfl, hb1⟩
      have Hb1 := Lib.hid hb1
      clear hb1
      go_wp2
      go_ret
      exact ⟨ret_i64 (by rw [E.out]; rfl), Hb1.out⟩
    | false =>
      have E : Hid (rowErr l = 1) := Lib.hid (by unfold rowErr; rw [if_neg (by have := Hl.out; omega), if_neg (by rw [hg]; decide)])
      rw [hg] at Hcall
      clear hg
      go_enter Try.func68, Try.ntmps68
      go_wp2_with fail
      refine Hcall.out.mono ?_
      rintro e w1 ⟨rfl, hb1⟩
      have Hb1 := Lib.hid hb1
      clear hb1
      go_wp2
      go_ret
      exact ⟨ret_i64 (by rw [E.out]; rfl), Hb1.out⟩

end Go.Proofs.Ytdfhnjocpfjagaa

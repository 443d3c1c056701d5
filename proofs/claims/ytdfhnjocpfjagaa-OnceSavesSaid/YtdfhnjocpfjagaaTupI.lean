/- Compare, of the program and of the document, gives what the plain text (SpecTuple) gives. Condition: the rows are in memory. -/
import Derived.Test.YtdfhnjocpfjagaaTupC
namespace Go.Proofs.Ytdfhnjocpfjagaa
open Go.RowKit
open Go.Lib (strCells compareBytes)

theorem cmpRow_at {l m : List TVal} {k : Nat} {v u : TVal} (hl : l[k]? = some v) (hm : m[k]? = some u) : cmpRow (l.drop k) (m.drop k) = if cmpV v u = 0 then cmpRow (l.drop (k + 1)) (m.drop (k + 1)) else cmpV v u := by
  obtain ⟨h1, rfl⟩ := List.getElem?_eq_some_iff.1 hl
  obtain ⟨h2, rfl⟩ := List.getElem?_eq_some_iff.1 hm
  rw [List.drop_eq_getElem_cons h1, List.drop_eq_getElem_cons h2]
  rfl
theorem cmpRow_behind {l m : List TVal} {k : Nat} (h1 : k < l.length) (h2 : m.length ≤ k) : cmpRow (l.drop k) (m.drop k) = 1 := by
  rw [List.drop_eq_getElem_cons h1, List.drop_of_length_le h2]
  rfl
theorem cmpRow_end {l m : List TVal} {k : Nat} (h1 : l.length ≤ k) : cmpRow (l.drop k) (m.drop k) = if k < m.length then -1 else 0 := by
  rw [List.drop_of_length_le h1]
  by_cases h : k < m.length
  · rw [if_pos h, List.drop_eq_getElem_cons h]
    rfl
  · rw [if_neg h, List.drop_of_length_le (by omega)]
    rfl

set_option maxHeartbeats 400000 in
theorem compareFunc_any (A A' : Option Addr) (n n' c c' B : Nat) (l m : List TVal) (w : World) (h : HasVals w B A n l) (h' : HasVals w B A' n' m) (hn : n ≤ maxLen) (hn' : n' ≤ maxLen) (hw : B ≤ w.heap.size) :
    Calls Try.prog 72 #[.slice A n c, .slice A' n' c', .func (.func 73) #[] #[]] w fun e w' => e = .returned (.int .i64 (cmpRow l m)) ∧ Below w.heap.size w w' := by
  unfold maxLen at hn hn'
  have H := Lib.hid h
  have H' := Lib.hid h'
  clear h h'
  have Hl := Lib.hid H.out.1
  have Hm := Lib.hid H'.out.1
  go_enter Try.func72, Try.ntmps72
  go_wp2
  go_loopw [7, 10, 13] (fun _ _ i wr => ∃ k : Nat, k ≤ n ∧ k ≤ n' ∧ i = .int .i64 (k : Int) ∧ Hid (cmpRow l m = cmpRow (l.drop k) (m.drop k)) ∧ Below w.heap.size w wr) (fun _ _ i _ => n - (intOf i).toNat)
  case atStart => exact ⟨0, by omega, by omega, rfl, Lib.hid (by simp), Below.refl _ _⟩
  case round =>
    obtain ⟨k, hk, hk', rfl, Hc, hb⟩ := hrel
    have Hb := Lib.hid hb
    have hsz := hb.size
    clear hb
    by_cases hlt : k < n
    · have H1 := Lib.hid (H.out.belowOf Hb.out hw)
      obtain ⟨a, v, rfl, ha, hv, c0, c1, c2⟩ := H1.out.at_ hlt
      by_cases hlt' : k < n'
      · have H2 := Lib.hid (H'.out.belowOf Hb.out hw)
        obtain ⟨a', u, rfl, ha', hu, d0, d1, d2⟩ := H2.out.at_ hlt'
        have Hat := Lib.hid (cmpRow_at hv hu)
        clear hv hu
        have hab : (a.add (k * 3)).block < wr.heap.size := by rw [addr_block]; omega
        have hab' : (a'.add (k * 3)).block < wr.heap.size := by rw [addr_block]; omega
        by_cases hc : cmpV v u = 0
        · have E : Hid (cmpRow l m = cmpRow (l.drop (k + 1)) (m.drop (k + 1))) := Lib.hid (by rw [Hc.out, Hat.out, if_pos hc])
          have Hcall := Lib.hid (fun wx => compareVals_any v u wx)
          rw [hc] at Hcall
          clear hc
          go_wp2_with fail
          refine (Hcall.out _).mono ?_
          rintro e w1 ⟨rfl, hb1⟩
          have Hb1 : Hid (Below w.heap.size w w1) := Lib.hid (((Hb.out.alloc hsz _).alloc (le_alloc hsz _) _).trans (hb1.mono (le_alloc (le_alloc hsz _) _)))
          clear hb1
          go_wp2
          go_roundw
          case rel => exact ⟨k + 1, by omega, by omega, by go_num, E, Hb1.out⟩
          case measure => simp [intOf]; omega
        · have E : Hid (cmpRow l m = cmpV v u) := Lib.hid (by rw [Hc.out, Hat.out, if_neg hc])
          have hne : (cmpV v u == 0) = false := by simpa using hc
          have hne' : (cmpV v u != 0) = true := by simpa using hc
          clear hc
          go_wp2_with fail
          refine (compareVals_any v u _).mono ?_
          rintro e w1 ⟨rfl, hb1⟩
          have Hb1 : Hid (Below w.heap.size w w1) := Lib.hid (((Hb.out.alloc hsz _).alloc (le_alloc hsz _) _).trans (hb1.mono (le_alloc (le_alloc hsz _) _)))
          clear hb1
          go_wp2
          go_ret
          exact ⟨ret_i64 (by rw [E.out]), Hb1.out⟩
      · have E : Hid (cmpRow l m = 1) := Lib.hid (by rw [Hc.out, cmpRow_behind (by have := Hl.out; omega) (by have := Hm.out; omega)])
        have hab : (a.add (k * 3)).block < wr.heap.size := by rw [addr_block]; omega
        clear hv
        go_wp2
        go_ret
        exact ⟨ret_i64 (by rw [E.out]), Hb.out.alloc hsz _⟩
    · obtain rfl : k = n := by omega
      by_cases hlt' : k < n'
      · have E : Hid (cmpRow l m = -1) := Lib.hid (by rw [Hc.out, cmpRow_end (by have := Hl.out; omega), if_pos (by have := Hm.out; omega)])
        go_wp2
        go_ret
        exact ⟨ret_i64 (by rw [E.out]), Hb.out⟩
      · have E : Hid (cmpRow l m = 0) := Lib.hid (by rw [Hc.out, cmpRow_end (by have := Hl.out; omega), if_neg (by have := Hm.out; omega)])
        go_wp2
        go_ret
        exact ⟨ret_i64 (by rw [E.out]), Hb.out⟩

theorem rowErr_num (l : List TVal) : rowErr l = 0 ∨ (((rowErr l : Int) == 0) = false ∧ ((rowErr l : Int) != 0) = true ∧ rowErr l ≠ 0) := by
  by_cases h : rowErr l = 0
  · exact .inl h
  · right
    refine ⟨?_, ?_, h⟩ <;> simp <;> omega

theorem compare_any (A A' : Option Addr) (n n' c c' B : Nat) (l m : List TVal) (w : World) (h : HasVals w B A n l) (h' : HasVals w B A' n' m) (hn : n ≤ maxLen) (hn' : n' ≤ maxLen) (hw : B ≤ w.heap.size) :
    Calls Try.prog 32 #[.slice A n c, .slice A' n' c'] w fun e w' => e = .returned (.int .i64 (cmpT l m)) ∧ Below w.heap.size w w' := by
  have H := Lib.hid h
  have H' := Lib.hid h'
  clear h h'
  have Hcall1 := Lib.hid (check_any A n c B l w H.out hn hw)
  rcases rowErr_num l with hl | ⟨hl1, hl2, hl3⟩
  · rw [hl] at Hcall1
    rcases rowErr_num m with hm | ⟨hm1, hm2, hm3⟩
    · have E : Hid (cmpT l m = cmpRow l m) := Lib.hid (by unfold cmpT; rw [if_neg (by omega)])
      have Hm := Lib.hid hm
      clear hl hm
      go_enter Try.func32, Try.ntmps32
      go_wp2_with fail
      refine Hcall1.out.mono ?_
      rintro e w1 ⟨rfl, hb1⟩
      have hsz := hb1.size
      have Hb1 := Lib.hid hb1
      clear hb1
      have Hcall2 := Lib.hid (check_any A' n' c' B m w1 (H'.out.belowOf Hb1.out hw) hn' (by omega))
      rw [Hm.out] at Hcall2
      go_wp2_with fail
      refine Hcall2.out.mono ?_
      rintro e w2 ⟨rfl, hb2⟩
      have hsz2 := hb2.size
      have Hb2 := Lib.hid (Hb1.out.trans (hb2.mono hsz))
      clear hb2
      go_wp2_with fail
      refine (compareFunc_any A A' n n' c c' B l m w2 (H.out.belowOf Hb2.out hw) (H'.out.belowOf Hb2.out hw) hn hn' (by omega)).mono ?_
      rintro e w3 ⟨rfl, hb3⟩
      have Hb3 := Lib.hid (Hb2.out.trans (hb3.mono (by omega)))
      clear hb3
      go_wp2
      go_ret
      exact ⟨ret_i64 (by rw [E.out]), Hb3.out⟩
    · have E : Hid (cmpT l m = 0) := Lib.hid (by unfold cmpT; rw [if_pos (.inr hm3)])
      clear hl hm3
      go_enter Try.func32, Try.ntmps32
      go_wp2_with fail
      refine Hcall1.out.mono ?_
      rintro e w1 ⟨rfl, hb1⟩
      have hsz := hb1.size
      have Hb1 := Lib.hid hb1
      clear hb1
      go_wp2_with fail
      refine (check_any A' n' c' B m w1 (H'.out.belowOf Hb1.out hw) hn' (by omega)).mono ?_
      rintro e w2 ⟨rfl, hb2⟩
      have Hb2 := Lib.hid (Hb1.out.trans (hb2.mono hsz))
      clear hb2
      go_wp2
      go_ret
      exact ⟨ret_i64 (by rw [E.out]), Hb2.out⟩
  · have E : Hid (cmpT l m = 0) := Lib.hid (by unfold cmpT; rw [if_pos (.inl hl3)])
    clear hl3
    go_enter Try.func32, Try.ntmps32
    go_wp2_with fail
    refine Hcall1.out.mono ?_
    rintro e w1 ⟨rfl, hb1⟩
    have Hb1 := Lib.hid hb1
    clear hb1
    go_wp2
    go_ret
    exact ⟨ret_i64 (by rw [E.out]), Hb1.out⟩

end Go.Proofs.Ytdfhnjocpfjagaa

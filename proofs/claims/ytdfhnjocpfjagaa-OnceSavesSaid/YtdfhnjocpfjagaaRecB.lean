/- checkRow, Pack, Check, areFields and the search for Null give what the plain text (SpecRec) gives. Condition: rows are in memory. -/
import Derived.Test.YtdfhnjocpfjagaaRecA
namespace Go.Proofs.Ytdfhnjocpfjagaa
open Go.RowKit
open Go.Lib (strCells compareBytes)

theorem when_true (e : Int) (w : World) : Calls Try.prog 80 #[.bool true, .int .i64 e] w fun r w' => r = .returned (.int .i64 e) ∧ w = w' := when_any true e w
theorem when_false (e : Int) (w : World) : Calls Try.prog 80 #[.bool false, .int .i64 e] w fun r w' => r = .returned (.int .i64 0) ∧ w = w' := when_any false e w
theorem first_lit (W : World) (cs : Array Value) (t : TypeId) (l : List Int) (n c : Nat) (z : Int) (hcs : cs.toList = intCells l) (hl : l.length = n) (hn : n ≤ 10) (hz : firstI l = z) :
    Calls Try.prog 76 #[.slice (some ⟨W.heap.size, 0, none⟩) n c] (W.alloc (.cells cs t)) fun e w' => e = .returned (.int .i64 z) ∧ W.alloc (.cells cs t) = w' := by
  subst hl hz
  exact first_any _ _ _ _ l _ (ints_lit W cs l t hcs _ rfl) (by simp only [maxLen]; omega)

set_option maxRecDepth 100000 in
theorem checkRow_any (A : Option Addr) (n c B : Nat) (l : List TVal) (w : World) (h : HasVals w B A n l) (hn : n ≤ maxLen) (hw : B ≤ w.heap.size) (hi : ∀ v ∈ l, InI64 v.n) :
    Calls Try.prog 86 #[.slice A n c] w fun e w' => e = .returned (.int .i64 (rowErr l : Int)) ∧ Below w.heap.size w w' := by
  have H := Lib.hid h
  have Hi := Lib.hid hi
  clear h hi
  go_enter Try.func86, Try.ntmps86
  go_wp2_with fail
  refine (key_any A n c B l w H.out hn hw Hi.out).mono ?_
  rintro e w1 ⟨rfl, hb1⟩
  have Hb1 := Lib.hid hb1
  clear hb1
  simp only [textErr]
  go_wp2
  go_ret
  exact ⟨rfl, Hb1.out⟩

def packT (r : List TVal) : List UInt8 := if recErr r = 0 then keyL r else []
set_option maxRecDepth 100000 in
theorem pack_any (A : Option Addr) (n c B : Nat) (l : List TVal) (w : World) (h : HasVals w B A n l) (hn : n ≤ maxLen) (hw : B ≤ w.heap.size) (hi : ∀ v ∈ l, InI64 v.n) :
    Calls Try.prog 111 #[.slice A n c] w fun e w' => e = .returned (textErr (packT l) (recErr l)) ∧ Below w.heap.size w w' := by
  have H := Lib.hid h
  have Hi := Lib.hid hi
  clear h hi
  have Hl := Lib.hid H.out.1
  have Hk := Lib.hid (key_any A n c B l w H.out hn hw Hi.out)
  simp only [textErr] at Hk ⊢
  by_cases hn0 : n = 0
  · have E : Hid (recErr l = 1) := Lib.hid (by unfold recErr; rw [if_pos (by rw [Hl.out, hn0])])
    have E2 : Hid (packT l = []) := Lib.hid (by unfold packT; rw [if_neg (by rw [E.out]; omega)])
    subst hn0
    go_enter Try.func111, Try.ntmps111
    go_wp2_with fail
    refine Hk.out.mono ?_
    rintro e w1 ⟨rfl, hb1⟩
    have Hb1 := Lib.hid hb1
    clear hb1
    go_wp2_with fail
    refine (when_true _ _).mono ?_
    rintro e w2 ⟨rfl, rfl⟩
    go_wp2_with fail
    refine (first_lit _ _ _ [1, (rowErr l : Int)] 2 2 1 rfl rfl (by omega) (by simp [firstI])).mono ?_
    rintro e w2 ⟨rfl, rfl⟩
    have Hb2 := Lib.hid (Hb1.out.alloc Hb1.out.size (.cells #[.int .i64 1, .int .i64 (rowErr l : Int)] 24))
    go_wp2
    go_ret2
    exact ⟨by rw [E.out, E2.out]; rfl, Hb2.out⟩
  · have hb : ((n : Int) == 0) = false := by simp; omega
    have E0 : Hid (recErr l = rowErr l) := Lib.hid (by unfold recErr; rw [if_neg (by have := Hl.out; omega)])
    clear hn0
    rcases rowErr_num l with hl | ⟨hl1, hl2, hl3⟩
    · have E2 : Hid (packT l = keyT l) := Lib.hid (by unfold packT keyT; rw [E0.out])
      have E : Hid (recErr l = 0) := Lib.hid (by rw [E0.out, hl])
      rw [hl] at Hk
      clear hl
      go_enter Try.func111, Try.ntmps111
      go_wp2_with fail
      refine Hk.out.mono ?_
      rintro e w1 ⟨rfl, hb1⟩
      have Hb1 := Lib.hid hb1
      clear hb1
      go_wp2_with fail
      refine (when_false _ _).mono ?_
      rintro e w2 ⟨rfl, rfl⟩
      go_wp2_with fail
      refine (first_lit _ _ _ [0, 0] 2 2 0 rfl rfl (by omega) (by simp [firstI])).mono ?_
      rintro e w2 ⟨rfl, rfl⟩
      have Hb2 := Lib.hid (Hb1.out.alloc Hb1.out.size (.cells #[.int .i64 0, .int .i64 0] 24))
      go_wp2
      go_ret2
      exact ⟨by rw [E.out, E2.out]; rfl, Hb2.out⟩
    · have E2 : Hid (packT l = []) := Lib.hid (by unfold packT; rw [E0.out, if_neg hl3])
      have hz : firstI [0, (rowErr l : Int)] = rowErr l := by simp [firstI]; omega
      clear hl3
      go_enter Try.func111, Try.ntmps111
      go_wp2_with fail
      refine Hk.out.mono ?_
      rintro e w1 ⟨rfl, hb1⟩
      have Hb1 := Lib.hid hb1
      clear hb1
      go_wp2_with fail
      refine (when_false _ _).mono ?_
      rintro e w2 ⟨rfl, rfl⟩
      go_wp2_with fail
      refine (first_lit _ _ _ [0, (rowErr l : Int)] 2 2 _ rfl rfl (by omega) hz).mono ?_
      rintro e w2 ⟨rfl, rfl⟩
      have Hb2 := Lib.hid (Hb1.out.alloc Hb1.out.size (.cells #[.int .i64 0, .int .i64 (rowErr l : Int)] 24))
      clear hz
      go_wp2
      go_ret2
      exact ⟨by rw [E0.out, E2.out]; rfl, Hb2.out⟩

set_option maxRecDepth 100000 in
theorem recCheck_any (A : Option Addr) (n c B : Nat) (l : List TVal) (w : World) (h : HasVals w B A n l) (hn : n ≤ maxLen) (hw : B ≤ w.heap.size) (hi : ∀ v ∈ l, InI64 v.n) :
    Calls Try.prog 75 #[.slice A n c] w fun e w' => e = .returned (.int .i64 (recErr l : Int)) ∧ Below w.heap.size w w' := by
  have H := Lib.hid h
  have Hi := Lib.hid hi
  clear h hi
  go_enter Try.func75, Try.ntmps75
  go_wp2_with fail
  refine (pack_any A n c B l w H.out hn hw Hi.out).mono ?_
  rintro e w1 ⟨rfl, hb1⟩
  have Hb1 := Lib.hid hb1
  clear hb1
  simp only [textErr]
  go_wp2
  go_ret
  exact ⟨rfl, Hb1.out⟩

set_option maxRecDepth 100000 in
theorem refRecCheck_any (A : Option Addr) (n c B : Nat) (l : List TVal) (w : World) (h : HasVals w B A n l) (hn : n ≤ maxLen) (hw : B ≤ w.heap.size) :
    Calls Try.prog 79 #[.slice A n c] w fun e w' => e = .returned (.int .i64 (recErr l : Int)) ∧ Below w.heap.size w w' := by
  have H := Lib.hid h
  clear h
  have Hl := Lib.hid H.out.1
  by_cases hn0 : n = 0
  · have E : Hid (recErr l = 1) := Lib.hid (by unfold recErr; rw [if_pos (by rw [Hl.out, hn0])])
    subst hn0
    go_enter Try.func79, Try.ntmps79
    go_wp2
    go_ret
    exact ⟨ret_i64 (by rw [E.out]; rfl), Below.refl _ _⟩
  · have hb : ((n : Int) == 0) = false := by simp; omega
    have E0 : Hid (recErr l = rowErr l) := Lib.hid (by unfold recErr; rw [if_neg (by have := Hl.out; omega)])
    clear hn0
    go_enter Try.func79, Try.ntmps79
    go_wp2_with fail
    refine (refRow_any A n c B l w H.out hn hw).mono ?_
    rintro e w1 ⟨rfl, hb1⟩
    have Hb1 := Lib.hid hb1
    clear hb1
    go_wp2
    go_ret
    exact ⟨ret_i64 (by rw [E0.out]), Hb1.out⟩

theorem all_take_succ' {p : TVal → Bool} {l : List TVal} {k : Nat} {v : TVal} (h : ∀ x ∈ l.take k, p x = true) (hv : l[k]? = some v) (hg : p v = true) : ∀ x ∈ l.take (k + 1), p x = true := by
  intro x hx
  rw [List.take_add_one, hv] at hx
  rcases List.mem_append.1 hx with hx | hx
  · exact h x hx
  · simp at hx
    subst hx
    exact hg
def IdxNullPost (l : List TVal) (w : World) (e : Ending) (w' : World) : Prop := ∃ i : Int, e = .returned (.int .i64 i) ∧ decide (0 ≤ i) = !l.all notNull ∧ Below w.heap.size w w'
set_option maxRecDepth 100000 in
theorem indexNull_any (A : Option Addr) (n c B : Nat) (l : List TVal) (w : World) (h : HasVals w B A n l) (hn : n ≤ maxLen) (hw : B ≤ w.heap.size) :
    Calls Try.prog 113 #[.slice A n c, .func (.func 77) #[] #[]] w (IdxNullPost l w) := by
  unfold maxLen at hn
  have H := Lib.hid h
  clear h
  have Hl := Lib.hid H.out.1
  go_enter Try.func113, Try.ntmps113
  go_wp2
  go_loopw [5, 8] (fun _ i wr => ∃ k : Nat, k ≤ n ∧ i = .int .i64 (k : Int) ∧ Hid (∀ v ∈ l.take k, notNull v = true) ∧ Below w.heap.size w wr) (fun _ i _ => n - (intOf i).toNat)
  case atStart => exact ⟨0, by omega, rfl, Lib.hid (by simp), Below.refl _ _⟩
  case round =>
    obtain ⟨k, hk, rfl, Hg, hb⟩ := hrel
    by_cases hlt : k < n
    · have H1 := Lib.hid (H.out.belowOf hb hw)
      obtain ⟨a, v, rfl, _, hv, c0, c1, c2⟩ := H1.out.at_ hlt
      have Hv := Lib.hid hv
      have Hb := Lib.hid hb
      have hsz := hb.size
      clear hv hb
      cases hg : v.k == 0 with
      | false =>
        have Hgv : Hid (notNull v = true) := Lib.hid (by unfold notNull; rw [hg]; rfl)
        go_wp2_with fail
        refine (isNull_any _ _ _ _).mono ?_
        rintro e w1 ⟨rfl, hb1⟩
        have Hb1 := Lib.hid (Hb.out.trans (hb1.mono hsz))
        clear hb1
        go_wp2
        go_roundw
        case rel => exact ⟨k + 1, by omega, by go_num, Lib.hid (all_take_succ' Hg.out Hv.out Hgv.out), Hb1.out⟩
        case measure => simp [intOf]; omega
      | true =>
        have E : Hid (decide ((0 : Int) ≤ (k : Int)) = !l.all notNull) := Lib.hid (by
          have : l.all notNull = false := by
            rw [← Bool.not_eq_true]
            intro ha
            have := List.all_eq_true.1 ha v (List.mem_of_getElem? Hv.out)
            unfold notNull at this
            rw [hg] at this
            cases this
          rw [this]
          simp)
        go_wp2_with fail
        refine (isNull_any _ _ _ _).mono ?_
        rintro e w1 ⟨rfl, hb1⟩
        have Hb1 := Lib.hid (Hb.out.trans (hb1.mono hsz))
        clear hb1
        go_wp2
        go_ret
        exact ⟨k, rfl, E.out, Hb1.out⟩
    · obtain rfl : k = n := by omega
      have E : Hid (decide ((0 : Int) ≤ -1) = !l.all notNull) := Lib.hid (by
        have : l.all notNull = true := List.all_eq_true.2 (by have := Hg.out; rwa [List.take_of_length_le (by have := Hl.out; omega)] at this)
        rw [this]
        rfl)
      have Hb := Lib.hid hb
      clear hb
      go_wp2
      go_ret
      exact ⟨-1, rfl, E.out, Hb.out⟩

set_option maxRecDepth 100000 in
theorem containsNull_any (A : Option Addr) (n c B : Nat) (l : List TVal) (w : World) (h : HasVals w B A n l) (hn : n ≤ maxLen) (hw : B ≤ w.heap.size) :
    Calls Try.prog 83 #[.slice A n c, .func (.func 77) #[] #[]] w fun e w' => e = .returned (.bool (!l.all notNull)) ∧ Below w.heap.size w w' := by
  have H := Lib.hid h
  clear h
  go_enter Try.func83, Try.ntmps83
  go_wp2_with fail
  refine (indexNull_any A n c B l w H.out hn hw).mono ?_
  rintro e w1 ⟨i, rfl, hi, hb1⟩
  have Hi := Lib.hid hi
  have Hb1 := Lib.hid hb1
  clear hi hb1
  go_wp2
  go_ret
  exact ⟨ret_bool Hi.out, Hb1.out⟩

/-! ### the numbers of fields -/
theorem box4 {w : World} {g : Nat} {t : TypeId} {x y z u : Value} (h : Box w g t #[x, y, z, u]) : w.cell? ⟨g, 0, none⟩ = some x ∧ w.cell? ⟨g, 1, none⟩ = some y ∧ w.cell? ⟨g, 2, none⟩ = some z ∧ w.cell? ⟨g, 3, none⟩ = some u ∧
    w.frozen? ⟨g, 0, none⟩ = false ∧ w.frozen? ⟨g, 1, none⟩ = false ∧ w.frozen? ⟨g, 2, none⟩ = false ∧ w.frozen? ⟨g, 3, none⟩ = false :=
  ⟨h.cell 0, h.cell 1, h.cell 2, h.cell 3, h.frozen 0, h.frozen 1, h.frozen 2, h.frozen 3⟩
theorem okF_drop {b0 b1 b2 b3 : Bool} {l : List Int} {k : Nat} {x : Int} (h : l[k]? = some x) : okF b0 b1 b2 b3 (l.drop k) = okF b0 b1 b2 b3 (x :: l.drop (k + 1)) := by
  obtain ⟨hk, rfl⟩ := List.getElem?_eq_some_iff.1 h
  rw [List.drop_eq_getElem_cons hk]

set_option maxHeartbeats 800000 in
set_option maxRecDepth 100000 in
theorem areFields_any (A : Option Addr) (n c B : Nat) (l : List Int) (w : World) (h : HasInts w B A n l) (hn : n ≤ maxLen) (hw : B ≤ w.heap.size) :
    Calls Try.prog 82 #[.slice A n c] w fun e w' => e = .returned (.bool (okFs l)) ∧ Below w.heap.size w w' := by
  unfold maxLen at hn
  have H := Lib.hid h
  clear h
  have Hl := Lib.hid H.out.1
  go_enter Try.func82, Try.ntmps82
  go_wp2
  go_loopw [5, 8] (fun _ i wr => ∃ (k : Nat) (b0 b1 b2 b3 : Bool), k ≤ n ∧ i = .int .i64 (k : Int) ∧ Box wr w.heap.size 163 #[.bool b0, .bool b1, .bool b2, .bool b3] ∧ Below w.heap.size w wr ∧ Hid (okFs l = okF b0 b1 b2 b3 (l.drop k))) (fun _ i _ => n - (intOf i).toNat)
  case atStart => exact ⟨0, false, false, false, false, by omega, rfl, Box.made _ _ _, below_box _, Lib.hid rfl⟩
  case round =>
    obtain ⟨k, b0, b1, b2, b3, hk, rfl, hbox, hb, Hf⟩ := hrel
    by_cases hlt : k < n
    · have H1 := Lib.hid (H.out.belowOf hb hw)
      obtain ⟨a, x, rfl, _, hx, hc⟩ := H1.out.at_ hlt
      have Hf1 : Hid (okFs l = okF b0 b1 b2 b3 (x :: l.drop (k + 1))) := Lib.hid (by rw [Hf.out, okF_drop hx])
      have Hb := Lib.hid hb
      have Hbox := Lib.hid hbox
      obtain ⟨q0, q1, q2, q3, f0, f1, f2, f3⟩ := box4 hbox
      clear hx hb hbox
      have hx4 : (x < 0 ∨ 4 ≤ x) ∨ x = 0 ∨ x = 1 ∨ x = 2 ∨ x = 3 := by omega
      rcases hx4 with hx | rfl | rfl | rfl | rfl
      · have E : Hid (okFs l = false) := Lib.hid (by rw [Hf1.out, okF_out hx])
        rcases hx with hx | hx
        · go_wp2
          go_ret
          exact ⟨ret_bool (by rw [E.out]), Hb.out⟩
        · have hx0 : 0 ≤ x := by omega
          go_wp2
          go_ret
          exact ⟨ret_bool (by rw [E.out]), Hb.out⟩
      · cases b0 with
        | true =>
          have E : Hid (okFs l = false) := Lib.hid (by rw [Hf1.out]; rfl)
          go_wp2
          go_ret
          exact ⟨ret_bool (by rw [E.out]), Hb.out⟩
        | false =>
          have E : Hid (okFs l = okF true b1 b2 b3 (l.drop (k + 1))) := Lib.hid (by rw [Hf1.out]; rfl)
          go_wp2
          go_roundw
          case rel => exact ⟨k + 1, true, b1, b2, b3, by omega, by go_num, Hbox.out.set_ 0 (.bool true), Hb.out.setCell (Nat.le_refl _) _, E⟩
          case measure => simp [intOf]; omega
      · cases b1 with
        | true =>
          have E : Hid (okFs l = false) := Lib.hid (by rw [Hf1.out]; rfl)
          go_wp2
          go_ret
          exact ⟨ret_bool (by rw [E.out]), Hb.out⟩
        | false =>
          have E : Hid (okFs l = okF b0 true b2 b3 (l.drop (k + 1))) := Lib.hid (by rw [Hf1.out]; rfl)
          go_wp2
          go_roundw
          case rel => exact ⟨k + 1, b0, true, b2, b3, by omega, by go_num, Hbox.out.set_ 1 (.bool true), Hb.out.setCell (Nat.le_refl _) _, E⟩
          case measure => simp [intOf]; omega
      · cases b2 with
        | true =>
          have E : Hid (okFs l = false) := Lib.hid (by rw [Hf1.out]; rfl)
          go_wp2
          go_ret
          exact ⟨ret_bool (by rw [E.out]), Hb.out⟩
        | false =>
          have E : Hid (okFs l = okF b0 b1 true b3 (l.drop (k + 1))) := Lib.hid (by rw [Hf1.out]; rfl)
          go_wp2
          go_roundw
          case rel => exact ⟨k + 1, b0, b1, true, b3, by omega, by go_num, Hbox.out.set_ 2 (.bool true), Hb.out.setCell (Nat.le_refl _) _, E⟩
          case measure => simp [intOf]; omega
      · cases b3 with
        | true =>
          have E : Hid (okFs l = false) := Lib.hid (by rw [Hf1.out]; rfl)
          go_wp2
          go_ret
          exact ⟨ret_bool (by rw [E.out]), Hb.out⟩
        | false =>
          have E : Hid (okFs l = okF b0 b1 b2 true (l.drop (k + 1))) := Lib.hid (by rw [Hf1.out]; rfl)
          go_wp2
          go_roundw
          case rel => exact ⟨k + 1, b0, b1, b2, true, by omega, by go_num, Hbox.out.set_ 3 (.bool true), Hb.out.setCell (Nat.le_refl _) _, E⟩
          case measure => simp [intOf]; omega
    · obtain rfl : k = n := by omega
      have E : Hid (okFs l = true) := Lib.hid (by rw [Hf.out, List.drop_of_length_le (by have := Hl.out; omega)]; rfl)
      have Hb := Lib.hid hb
      clear hb hbox
      go_wp2
      go_ret
      exact ⟨ret_bool (by rw [E.out]), Hb.out⟩

end Go.Proofs.Ytdfhnjocpfjagaa

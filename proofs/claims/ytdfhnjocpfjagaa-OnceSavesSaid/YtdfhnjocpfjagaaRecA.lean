/- The small helpers of record (when, first, isId, isNull, Key, idText, checkRow, Pack, Check) give what the plain text (SpecRec) gives. Condition: rows are in memory. -/
import Derived.Test.YtdfhnjocpfjagaaTupI
import Derived.Test.YtdfhnjocpfjagaaTupF
import Derived.Test.YtdfhnjocpfjagaaTupS
import Derived.Test.YtdfhnjocpfjagaaSpecRec
namespace Go.Proofs.Ytdfhnjocpfjagaa
open Go.RowKit
open Go.Lib (strCells compareBytes)

theorem ret_str {a b : ByteArray} (h : a = b) : Ending.returned (.string a) = .returned (.string b) := by rw [h]
set_option maxRecDepth 100000 in
theorem when_any (b : Bool) (e : Int) (w : World) : Calls Try.prog 80 #[.bool b, .int .i64 e] w fun r w' => r = .returned (.int .i64 (whenI b e)) ∧ w = w' := by
  cases b with
  | true =>
    go_enter Try.func80, Try.ntmps80
    go_wp2
    go_ret
    exact ⟨rfl, rfl⟩
  | false =>
    go_enter Try.func80, Try.ntmps80
    go_wp2
    go_ret
    exact ⟨rfl, rfl⟩

def intCells (l : List Int) : List Value := l.map fun e => .int .i64 e
theorem intCells_at {l : List Int} {k : Nat} {x : Int} (h : l[k]? = some x) : (intCells l)[k]? = some (.int .i64 x) := by simp [intCells, h]
/-- The numbers l, in memory. -/
def HasInts (w : World) (B : Nat) (A : Option Addr) (n : Nat) (l : List Int) : Prop := l.length = n ∧ Has w B A n (intCells l)
theorem HasInts.at_ {w : World} {B n : Nat} {A : Option Addr} {l : List Int} (h : HasInts w B A n l) {k : Nat} (hk : k < n) : ∃ a x, A = some a ∧ a.block < B ∧ l[k]? = some x ∧ w.cell? (a.add k) = some (.int .i64 x) := by
  have hl : k < l.length := by have := h.1; omega
  obtain ⟨a, rfl, hb, hc⟩ := h.2.all (by omega)
  exact ⟨a, l[k], rfl, hb, List.getElem?_eq_getElem hl, hc _ _ (intCells_at (List.getElem?_eq_getElem hl))⟩
theorem HasInts.below {w w' : World} {B n : Nat} {A : Option Addr} {l : List Int} (h : HasInts w B A n l) (hb : Below B w w') : HasInts w' B A n l := ⟨h.1, h.2.below hb⟩
theorem HasInts.belowOf {w w' : World} {B n : Nat} {A : Option Addr} {l : List Int} (h : HasInts w B A n l) {C : Nat} (hb : Below C w w') (hC : B ≤ C) : HasInts w' B A n l := ⟨h.1, h.2.belowOf hb hC⟩

theorem firstI_drop {l : List Int} {k : Nat} {x : Int} (h : l[k]? = some x) : firstI (l.drop k) = if x = 0 then firstI (l.drop (k + 1)) else x := by
  obtain ⟨hk, rfl⟩ := List.getElem?_eq_some_iff.1 h
  rw [List.drop_eq_getElem_cons hk]
  rfl
set_option maxRecDepth 100000 in
theorem first_any (A : Option Addr) (n c B : Nat) (l : List Int) (w : World) (h : HasInts w B A n l) (hn : n ≤ maxLen) :
    Calls Try.prog 76 #[.slice A n c] w fun e w' => e = .returned (.int .i64 (firstI l)) ∧ w = w' := by
  unfold maxLen at hn
  have H := Lib.hid h
  clear h
  have Hl := Lib.hid H.out.1
  go_enter Try.func76, Try.ntmps76
  go_wp2
  go_loop [4, 7] (fun _ i => ∃ k : Nat, k ≤ n ∧ i = .int .i64 (k : Int) ∧ Hid (firstI l = firstI (l.drop k))) (fun _ i => n - (intOf i).toNat)
  case atStart => exact ⟨0, by omega, rfl, Lib.hid rfl⟩
  case round =>
    obtain ⟨k, hk, rfl, Hf⟩ := hrel
    by_cases hlt : k < n
    · obtain ⟨a, x, rfl, _, hx, hc⟩ := H.out.at_ hlt
      have Hx := Lib.hid hx
      clear hx
      by_cases h0 : x = 0
      · subst h0
        have E : Hid (firstI l = firstI (l.drop (k + 1))) := Lib.hid (by rw [Hf.out, firstI_drop Hx.out, if_pos rfl])
        go_wp2
        go_round
        case rel => exact ⟨k + 1, by omega, by go_num, E⟩
        case measure => simp [intOf]; omega
      · have E : Hid (firstI l = x) := Lib.hid (by rw [Hf.out, firstI_drop Hx.out, if_neg h0])
        have hb : (x == 0) = false := by simpa using h0
        have hb' : (x != 0) = true := by simpa using h0
        clear h0
        go_wp2
        go_ret
        exact ⟨ret_i64 (by rw [E.out]), rfl⟩
    · obtain rfl : k = n := by omega
      have E : Hid (firstI l = 0) := Lib.hid (by rw [Hf.out, List.drop_of_length_le (by have := Hl.out; omega)]; rfl)
      go_wp2
      go_ret
      exact ⟨ret_i64 (by rw [E.out]), rfl⟩

/-- a literal row of numbers that the call has just laid -/
theorem ints_lit (w : World) (cs : Array Value) (l : List Int) (t : TypeId) (hcs : cs.toList = intCells l) (g : Nat) (hg : w.heap.size = g) : HasInts (w.alloc (.cells cs t)) (g + 1) (some ⟨g, 0, none⟩) l.length l := by
  subst hg
  have h := Has.lit w cs t
  have hsz : cs.size = l.length := by
    have := congrArg List.length hcs
    simpa [intCells] using this
  rw [hcs, hsz] at h
  exact ⟨rfl, h⟩

set_option maxRecDepth 100000 in
theorem isId_any (id : Int) (w : World) : Calls Try.prog 81 #[.int .i64 id] w fun e w' => e = .returned (.bool (isIdB id)) ∧ w = w' := by
  by_cases h1 : 1 ≤ id
  · have E : Hid (isIdB id = decide (id ≤ 6)) := Lib.hid (by unfold isIdB; rw [decide_eq_true h1]; rfl)
    go_enter Try.func81, Try.ntmps81
    go_wp2
    go_ret
    exact ⟨ret_bool (by rw [E.out]), rfl⟩
  · have E : Hid (isIdB id = false) := Lib.hid (by unfold isIdB; rw [decide_eq_false h1]; rfl)
    have h1' : id < 1 := by omega
    go_enter Try.func81, Try.ntmps81
    go_wp2
    go_ret
    exact ⟨ret_bool (by rw [E.out]), rfl⟩

set_option maxRecDepth 100000 in
theorem isNull_any (k n : Int) (s : ByteArray) (w : World) :
    Calls Try.prog 77 #[.agg #[.int .i64 k, .int .i64 n, .string s]] w fun e w' => e = .returned (.bool (k == 0)) ∧ Below w.heap.size w w' := by
  go_enter Try.func77, Try.ntmps77
  go_wp2
  go_ret
  exact ⟨rfl, below_box _⟩

set_option maxRecDepth 100000 in
theorem recKey_any (s : ByteArray) (w : World) : Calls Try.prog 84 #[.string s] w fun e w' => e = .returned (.bool (keyOk s.data.toList)) ∧ w = w' := by
  have Hsl := Lib.hid (Lib.size_eq s)
  by_cases h0 : s = ⟨#[]⟩
  · subst h0
    go_enter Try.func84, Try.ntmps84
    go_wp2
    go_ret
    exact ⟨rfl, rfl⟩
  · have hne : (s.toList == []) = false := by
      rw [Lib.toList_data]
      refine beq_eq_false_iff_ne.2 fun e => h0 (bytes_ext (by rw [e]))
    have hl : 1 ≤ s.data.toList.length := by
      rcases Nat.eq_zero_or_pos s.data.toList.length with h | h
      · exact absurd (bytes_ext (by rw [List.eq_nil_of_length_eq_zero h])) h0
      · exact h
    have E : Hid (keyOk s.data.toList = decide (s.size ≤ 16)) := Lib.hid (by unfold keyOk; rw [decide_eq_true hl, Lib.size_eq]; rfl)
    clear h0 hl
    go_enter Try.func84, Try.ntmps84
    go_wp2
    go_ret
    exact ⟨ret_bool (by rw [E.out]; exact decide_eq_decide.2 (by omega)), rfl⟩

set_option maxRecDepth 100000 in
theorem idText_any (id : Int) (h : isIdB id = true) (w : World) : Calls Try.prog 85 #[.int .i64 id] w fun e w' => e = .returned (.string ⟨(idT id).toArray⟩) ∧ Below w.heap.size w w' := by
  obtain ⟨k, rfl, h1, h6⟩ := idB_nat h
  have hk : k = 1 ∨ k = 2 ∨ k = 3 ∨ k = 4 ∨ k = 5 ∨ k = 6 := by omega
  have hcv := fun (x : UInt8) (y : Int) (hy : y = x.toNat) => string_run (lit_bytes w [0, x] 5 #[.int .u8 0, .int .u8 y] (by subst hy; rfl)) 2
  simp only [List.length_cons, List.length_nil, Nat.zero_add, Nat.reduceAdd] at hcv
  rcases hk with rfl | rfl | rfl | rfl | rfl | rfl
  · have hc := hcv 1 1 rfl
    clear hcv
    go_enter Try.func85, Try.ntmps85
    go_wp2
    go_ret
    exact ⟨rfl, below_box _⟩
  · have hc := hcv 2 2 rfl
    clear hcv
    go_enter Try.func85, Try.ntmps85
    go_wp2
    go_ret
    exact ⟨rfl, below_box _⟩
  · have hc := hcv 3 3 rfl
    clear hcv
    go_enter Try.func85, Try.ntmps85
    go_wp2
    go_ret
    exact ⟨rfl, below_box _⟩
  · have hc := hcv 4 4 rfl
    clear hcv
    go_enter Try.func85, Try.ntmps85
    go_wp2
    go_ret
    exact ⟨rfl, below_box _⟩
  · have hc := hcv 5 5 rfl
    clear hcv
    go_enter Try.func85, Try.ntmps85
    go_wp2
    go_ret
    exact ⟨rfl, below_box _⟩
  · have hc := hcv 6 6 rfl
    clear hcv
    go_enter Try.func85, Try.ntmps85
    go_wp2
    go_ret
    exact ⟨rfl, below_box _⟩

end Go.Proofs.Ytdfhnjocpfjagaa

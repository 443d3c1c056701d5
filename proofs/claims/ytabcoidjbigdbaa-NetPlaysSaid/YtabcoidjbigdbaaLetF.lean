/- letter.outside: is one of a letter's numbers outside; letter.Check. Condition: texts shorter than 2^47 bytes. -/
import Derived.Test.YtabcoidjbigdbaaLetE
namespace Go.Proofs.Ytabcoidjbigdbaa
open Go.RowKit
open Go.Lib (strCells)

def okI (n : Int) : Bool := decide (okNum n)
def okIt (i : LIt) : Bool := okI i.v
theorem all_take_succL {l : List LIt} {k : Nat} {v : LIt} (h : ∀ v ∈ l.take k, okIt v = true) (hv : l[k]? = some v) (hg : okIt v = true) : ∀ v ∈ l.take (k + 1), okIt v = true := by
  rw [take_snocA hv]
  intro x hx
  rcases List.mem_append.1 hx with h1 | h1
  · exact h x h1
  · simp at h1; subst h1; exact hg
theorem ret_boolL {a b : Bool} (h : a = b) : Ending.returned (.bool a) = Ending.returned (.bool b) := by rw [h]
set_option maxRecDepth 100000 in
theorem outFn_any (s : ByteArray) (n : Int) (g : Bool) (w : World) :
    Calls Try.prog 71 #[.agg #[.string s, .int .i64 n, .bool g]] w fun e w' => e = .returned (.bool (!okI n)) ∧ Below w.heap.size w w' := by
  have Hb := Lib.hid (beyond_any n (w.alloc (.cells #[.string s, .int .i64 n, .bool g] 40)))
  have e1 : decide (¬ okNum n) = !okI n := by unfold okI; by_cases h : okNum n <;> simp [h]
  rw [e1] at Hb
  have HE := Lib.hid (below_box (w := w) (Obj.cells #[.string s, .int .i64 n, .bool g] 40))
  clear e1
  go_enter Try.func71, Try.ntmps71
  go_wp2_with fail
  refine Hb.out.mono ?_
  rintro e w1 ⟨rfl, rfl⟩
  go_wp2
  go_ret
  exact ⟨rfl, HE.out⟩
def IdxPostL (l : List LIt) (w : World) (e : Ending) (w' : World) : Prop := ∃ i : Int, e = .returned (.int .i64 i) ∧ decide (0 ≤ i) = !l.all okIt ∧ Below w.heap.size w w'
theorem indexFuncL_any (A : Option Addr) (n c B : Nat) (l : List LIt) (w : World) (h : HasLis w B A n l) (hn : n ≤ maxLen) (hw : B ≤ w.heap.size) :
    Calls Try.prog 87 #[.slice A n c, .func (.func 71) #[] #[]] w (IdxPostL l w) := by
  unfold maxLen at hn
  have H := Lib.hid h
  clear h
  have Hl := Lib.hid H.out.1
  go_enter Try.func87, Try.ntmps87
  go_wp2
  go_loopw [5, 8] (fun _ i wr => ∃ k : Nat, k ≤ n ∧ i = .int .i64 (k : Int) ∧ Hid (∀ v ∈ l.take k, okIt v = true) ∧ Below w.heap.size w wr) (fun _ i _ => n - (intOf i).toNat)
  case atStart => exact ⟨0, by omega, rfl, Lib.hid (by simp), Below.refl _ _⟩
  case round =>
    obtain ⟨k, hk, rfl, Hg, hb⟩ := hrel
    by_cases hlt : k < n
    · have H1 := Lib.hid (H.out.belowOf hb hw)
      obtain ⟨a, v, rfl, _, hv, c0, c1, c2⟩ := H1.out.at_ hlt
      have Hv := Lib.hid hv
      have Hb := Lib.hid hb
      have hsz := hb.size
      clear hv hb
      cases hg : okI v.v with
      | true =>
        have Hgv : Hid (okIt v = true) := Lib.hid hg
        go_wp2_with fail
        refine (outFn_any _ _ _ _).mono ?_
        rintro e w1 ⟨rfl, hb1⟩
        have Hb1 := Lib.hid (Hb.out.trans (hb1.mono hsz))
        clear hb1
        go_wp2
        go_roundw
        case rel => exact ⟨k + 1, by omega, by go_num, Lib.hid (all_take_succL Hg.out Hv.out Hgv.out), Hb1.out⟩
        case measure => simp [intOf]; omega
      | false =>
        have E : Hid (decide ((0 : Int) ≤ (k : Int)) = !l.all okIt) := Lib.hid (by
          have : l.all okIt = false := by
            rw [← Bool.not_eq_true]
            intro ha
            have := List.all_eq_true.1 ha v (List.mem_of_getElem? Hv.out)
            rw [show okIt v = okI v.v from rfl, hg] at this
            cases this
          rw [this]
          simp)
        go_wp2_with fail
        refine (outFn_any _ _ _ _).mono ?_
        rintro e w1 ⟨rfl, hb1⟩
        have Hb1 := Lib.hid (Hb.out.trans (hb1.mono hsz))
        clear hb1
        go_wp2
        go_ret
        exact ⟨k, rfl, E.out, Hb1.out⟩
    · obtain rfl : k = n := by omega
      have E : Hid (decide ((0 : Int) ≤ -1) = !l.all okIt) := Lib.hid (by
        have : l.all okIt = true := List.all_eq_true.2 (by have := Hg.out; rwa [List.take_of_length_le (by have := Hl.out; omega)] at this)
        rw [this]
        rfl)
      have Hb := Lib.hid hb
      clear hb
      go_wp2
      go_ret
      exact ⟨-1, rfl, E.out, Hb.out⟩

theorem containsFuncL_any (A : Option Addr) (n c B : Nat) (l : List LIt) (w : World) (h : HasLis w B A n l) (hn : n ≤ maxLen) (hw : B ≤ w.heap.size) :
    Calls Try.prog 70 #[.slice A n c, .func (.func 71) #[] #[]] w fun e w' => e = .returned (.bool (!l.all okIt)) ∧ Below w.heap.size w w' := by
  have H := Lib.hid h
  clear h
  go_enter Try.func70, Try.ntmps70
  go_wp2_with fail
  refine (indexFuncL_any A n c B l w H.out hn hw).mono ?_
  rintro e w1 ⟨i, rfl, hi, hb1⟩
  have Hi := Lib.hid hi
  have Hb1 := Lib.hid hb1
  clear hi hb1
  go_wp2
  go_ret
  exact ⟨ret_boolL Hi.out, Hb1.out⟩
set_option maxRecDepth 100000 in
set_option maxHeartbeats 6400000 in
theorem outside_any (L : Let) (Ap : Option Addr) (np cp : Nat) (Ai : Option Addr) (ni ci : Nat) (C : Nat) (w : World) (hI : HasLis w C Ai ni L.is) (hC : C ≤ w.heap.size) (hn : ni ≤ maxLen) :
    Calls Try.prog 46 #[.agg #[.int .i64 L.kind, .int .i64 L.frm, .int .i64 L.to, .int .i64 L.a, .int .i64 L.b, .int .i64 L.c, .int .i64 L.d, .string L.s, .string L.t, .slice Ap np cp, .slice Ai ni ci, .int .i64 L.code, .bool L.yes, .string L.body]] w fun e w' => e = .returned (.bool (decide (¬ L.inside))) ∧ Below w.heap.size w w' := by
  have HB0 : Hid (Below w.heap.size w (w.alloc (.cells #[.int .i64 L.kind, .int .i64 L.frm, .int .i64 L.to, .int .i64 L.a, .int .i64 L.b, .int .i64 L.c, .int .i64 L.d, .string L.s, .string L.t, .slice Ap np cp, .slice Ai ni ci, .int .i64 L.code, .bool L.yes, .string L.body] 26))) := Lib.hid (below_box _)
  have HLB : Hid (∀ wx, Below (w.alloc (.cells #[.int .i64 L.kind, .int .i64 L.frm, .int .i64 L.to, .int .i64 L.a, .int .i64 L.b, .int .i64 L.c, .int .i64 L.d, .string L.s, .string L.t, .slice Ap np cp, .slice Ai ni ci, .int .i64 L.code, .bool L.yes, .string L.body] 26)).heap.size (w.alloc (.cells #[.int .i64 L.kind, .int .i64 L.frm, .int .i64 L.to, .int .i64 L.a, .int .i64 L.b, .int .i64 L.c, .int .i64 L.d, .string L.s, .string L.t, .slice Ap np cp, .slice Ai ni ci, .int .i64 L.code, .bool L.yes, .string L.body] 26)) wx → Box wx w.heap.size 26 #[.int .i64 L.kind, .int .i64 L.frm, .int .i64 L.to, .int .i64 L.a, .int .i64 L.b, .int .i64 L.c, .int .i64 L.d, .string L.s, .string L.t, .slice Ap np cp, .slice Ai ni ci, .int .i64 L.code, .bool L.yes, .string L.body]) := Lib.hid fun wx hx => (let_box hx).1
  have HCF := Lib.hid (fun wx (hx : Below (w.alloc (.cells #[.int .i64 L.kind, .int .i64 L.frm, .int .i64 L.to, .int .i64 L.a, .int .i64 L.b, .int .i64 L.c, .int .i64 L.d, .string L.s, .string L.t, .slice Ap np cp, .slice Ai ni ci, .int .i64 L.code, .bool L.yes, .string L.body] 26)).heap.size (w.alloc (.cells #[.int .i64 L.kind, .int .i64 L.frm, .int .i64 L.to, .int .i64 L.a, .int .i64 L.b, .int .i64 L.c, .int .i64 L.d, .string L.s, .string L.t, .slice Ap np cp, .slice Ai ni ci, .int .i64 L.code, .bool L.yes, .string L.body] 26)) wx) => containsFuncL_any Ai ni ci C L.is wx (hI.belowOf ((below_box _).trans (hx.mono (by simp))) hC) hn (by have := hx.size; simp only [World.size_alloc] at this; omega))
  clear hI
  by_cases hk : 255 < L.kind
  · have E : Hid (decide (¬ L.inside) = true) := Lib.hid (decide_eq_true (fun h => by have := h.1; omega))
    rw [E.out]
    go_enter Try.func46, Try.ntmps46
    go_wp2
    go_ret
    exact ⟨rfl, HB0.out⟩
  · have hk' : L.kind ≤ 255 := by omega
    have ix0 : ∀ wx, (Instr.index 90 (.agg #[.int .i64 L.kind, .int .i64 L.frm, .int .i64 L.to, .int .i64 L.a, .int .i64 L.b, .int .i64 L.c, .int .i64 L.d, .int .i64 L.code]) (.int .i64 0)).run Try.prog wx = .ok (.int .i64 L.kind) wx := fun _ => by kernel_rfl
    have ix1 : ∀ wx, (Instr.index 90 (.agg #[.int .i64 L.kind, .int .i64 L.frm, .int .i64 L.to, .int .i64 L.a, .int .i64 L.b, .int .i64 L.c, .int .i64 L.d, .int .i64 L.code]) (.int .i64 1)).run Try.prog wx = .ok (.int .i64 L.frm) wx := fun _ => by kernel_rfl
    have ix2 : ∀ wx, (Instr.index 90 (.agg #[.int .i64 L.kind, .int .i64 L.frm, .int .i64 L.to, .int .i64 L.a, .int .i64 L.b, .int .i64 L.c, .int .i64 L.d, .int .i64 L.code]) (.int .i64 2)).run Try.prog wx = .ok (.int .i64 L.to) wx := fun _ => by kernel_rfl
    have ix3 : ∀ wx, (Instr.index 90 (.agg #[.int .i64 L.kind, .int .i64 L.frm, .int .i64 L.to, .int .i64 L.a, .int .i64 L.b, .int .i64 L.c, .int .i64 L.d, .int .i64 L.code]) (.int .i64 3)).run Try.prog wx = .ok (.int .i64 L.a) wx := fun _ => by kernel_rfl
    have ix4 : ∀ wx, (Instr.index 90 (.agg #[.int .i64 L.kind, .int .i64 L.frm, .int .i64 L.to, .int .i64 L.a, .int .i64 L.b, .int .i64 L.c, .int .i64 L.d, .int .i64 L.code]) (.int .i64 4)).run Try.prog wx = .ok (.int .i64 L.b) wx := fun _ => by kernel_rfl
    have ix5 : ∀ wx, (Instr.index 90 (.agg #[.int .i64 L.kind, .int .i64 L.frm, .int .i64 L.to, .int .i64 L.a, .int .i64 L.b, .int .i64 L.c, .int .i64 L.d, .int .i64 L.code]) (.int .i64 5)).run Try.prog wx = .ok (.int .i64 L.c) wx := fun _ => by kernel_rfl
    have ix6 : ∀ wx, (Instr.index 90 (.agg #[.int .i64 L.kind, .int .i64 L.frm, .int .i64 L.to, .int .i64 L.a, .int .i64 L.b, .int .i64 L.c, .int .i64 L.d, .int .i64 L.code]) (.int .i64 6)).run Try.prog wx = .ok (.int .i64 L.d) wx := fun _ => by kernel_rfl
    have ix7 : ∀ wx, (Instr.index 90 (.agg #[.int .i64 L.kind, .int .i64 L.frm, .int .i64 L.to, .int .i64 L.a, .int .i64 L.b, .int .i64 L.c, .int .i64 L.d, .int .i64 L.code]) (.int .i64 7)).run Try.prog wx = .ok (.int .i64 L.code) wx := fun _ => by kernel_rfl
    clear hk
    go_enter Try.func46, Try.ntmps46
    go_wp2_with fail
    refine (numbers_any L Ap np cp Ai ni ci _).mono ?_
    rintro e w1 ⟨rfl, b1⟩
    have HB1 := Lib.hid b1
    clear b1
    go_wp2
    go_loopw [4, 10] (fun _ iv wr => ∃ j : Nat, j ≤ 8 ∧ iv = .int .i64 (j : Int) ∧ Hid (∀ n ∈ L.nums.take j, okNum n) ∧ Below (w.alloc (.cells #[.int .i64 L.kind, .int .i64 L.frm, .int .i64 L.to, .int .i64 L.a, .int .i64 L.b, .int .i64 L.c, .int .i64 L.d, .string L.s, .string L.t, .slice Ap np cp, .slice Ai ni ci, .int .i64 L.code, .bool L.yes, .string L.body] 26)).heap.size (w.alloc (.cells #[.int .i64 L.kind, .int .i64 L.frm, .int .i64 L.to, .int .i64 L.a, .int .i64 L.b, .int .i64 L.c, .int .i64 L.d, .string L.s, .string L.t, .slice Ap np cp, .slice Ai ni ci, .int .i64 L.code, .bool L.yes, .string L.body] 26)) wr) (fun _ iv _ => 8 - (intOf iv).toNat)
    case atStart => exact ⟨0, by omega, rfl, Lib.hid (by simp), HB1.out⟩
    case round =>
      clear HB1
      obtain ⟨j, hj, rfl, HT, hb⟩ := hrel
      have Hb := Lib.hid hb
      clear hb
      by_cases hlt : j < 8
      · have hc : j = 0 ∨ j = 1 ∨ j = 2 ∨ j = 3 ∨ j = 4 ∨ j = 5 ∨ j = 6 ∨ j = 7 := by omega
        clear hj hlt
        rcases hc with rfl | rfl | rfl | rfl | rfl | rfl | rfl | rfl
        · have Hbn := Lib.hid (beyond_any L.kind wr)
          by_cases ho : okNum L.kind
          · rw [decide_eq_false (fun h => h ho)] at Hbn
            have HT2 : Hid (∀ n ∈ L.nums.take 1, okNum n) := Lib.hid (by
              have h9 := HT.out
              simp only [Let.nums, List.take, List.mem_cons, List.not_mem_nil, or_false] at h9 ⊢
              intro n hn
              by_cases he : n = L.kind
              · rw [he]; exact ho
              · exact h9 n (by simp_all))
            clear ho
            go_wp2_with fail
            refine Hbn.out.mono ?_
            rintro e w2 ⟨rfl, rfl⟩
            go_wp2
            go_roundw
            case rel => exact ⟨1, by omega, by go_num, HT2, Hb.out⟩
            case measure => simp [intOf]
          · rw [decide_eq_true ho] at Hbn
            have E : Hid (decide (¬ L.inside) = true) := Lib.hid (decide_eq_true (fun h => ho (h.2.1 _ (by simp [Let.nums]))))
            clear ho
            go_wp2_with fail
            refine Hbn.out.mono ?_
            rintro e w2 ⟨rfl, rfl⟩
            go_wp2
            go_ret
            exact ⟨by rw [E.out]; rfl, HB0.out.trans (Hb.out.mono HB0.out.size)⟩
        · have Hbn := Lib.hid (beyond_any L.frm wr)
          by_cases ho : okNum L.frm
          · rw [decide_eq_false (fun h => h ho)] at Hbn
            have HT2 : Hid (∀ n ∈ L.nums.take 2, okNum n) := Lib.hid (by
              have h9 := HT.out
              simp only [Let.nums, List.take, List.mem_cons, List.not_mem_nil, or_false] at h9 ⊢
              intro n hn
              by_cases he : n = L.frm
              · rw [he]; exact ho
              · exact h9 n (by simp_all))
            clear ho
            go_wp2_with fail
            refine Hbn.out.mono ?_
            rintro e w2 ⟨rfl, rfl⟩
            go_wp2
            go_roundw
            case rel => exact ⟨2, by omega, by go_num, HT2, Hb.out⟩
            case measure => simp [intOf]
          · rw [decide_eq_true ho] at Hbn
            have E : Hid (decide (¬ L.inside) = true) := Lib.hid (decide_eq_true (fun h => ho (h.2.1 _ (by simp [Let.nums]))))
            clear ho
            go_wp2_with fail
            refine Hbn.out.mono ?_
            rintro e w2 ⟨rfl, rfl⟩
            go_wp2
            go_ret
            exact ⟨by rw [E.out]; rfl, HB0.out.trans (Hb.out.mono HB0.out.size)⟩
        · have Hbn := Lib.hid (beyond_any L.to wr)
          by_cases ho : okNum L.to
          · rw [decide_eq_false (fun h => h ho)] at Hbn
            have HT2 : Hid (∀ n ∈ L.nums.take 3, okNum n) := Lib.hid (by
              have h9 := HT.out
              simp only [Let.nums, List.take, List.mem_cons, List.not_mem_nil, or_false] at h9 ⊢
              intro n hn
              by_cases he : n = L.to
              · rw [he]; exact ho
              · exact h9 n (by simp_all))
            clear ho
            go_wp2_with fail
            refine Hbn.out.mono ?_
            rintro e w2 ⟨rfl, rfl⟩
            go_wp2
            go_roundw
            case rel => exact ⟨3, by omega, by go_num, HT2, Hb.out⟩
            case measure => simp [intOf]
          · rw [decide_eq_true ho] at Hbn
            have E : Hid (decide (¬ L.inside) = true) := Lib.hid (decide_eq_true (fun h => ho (h.2.1 _ (by simp [Let.nums]))))
            clear ho
            go_wp2_with fail
            refine Hbn.out.mono ?_
            rintro e w2 ⟨rfl, rfl⟩
            go_wp2
            go_ret
            exact ⟨by rw [E.out]; rfl, HB0.out.trans (Hb.out.mono HB0.out.size)⟩
        · have Hbn := Lib.hid (beyond_any L.a wr)
          by_cases ho : okNum L.a
          · rw [decide_eq_false (fun h => h ho)] at Hbn
            have HT2 : Hid (∀ n ∈ L.nums.take 4, okNum n) := Lib.hid (by
              have h9 := HT.out
              simp only [Let.nums, List.take, List.mem_cons, List.not_mem_nil, or_false] at h9 ⊢
              intro n hn
              by_cases he : n = L.a
              · rw [he]; exact ho
              · exact h9 n (by simp_all))
            clear ho
            go_wp2_with fail
            refine Hbn.out.mono ?_
            rintro e w2 ⟨rfl, rfl⟩
            go_wp2
            go_roundw
            case rel => exact ⟨4, by omega, by go_num, HT2, Hb.out⟩
            case measure => simp [intOf]
          · rw [decide_eq_true ho] at Hbn
            have E : Hid (decide (¬ L.inside) = true) := Lib.hid (decide_eq_true (fun h => ho (h.2.1 _ (by simp [Let.nums]))))
            clear ho
            go_wp2_with fail
            refine Hbn.out.mono ?_
            rintro e w2 ⟨rfl, rfl⟩
            go_wp2
            go_ret
            exact ⟨by rw [E.out]; rfl, HB0.out.trans (Hb.out.mono HB0.out.size)⟩
        · have Hbn := Lib.hid (beyond_any L.b wr)
          by_cases ho : okNum L.b
          · rw [decide_eq_false (fun h => h ho)] at Hbn
            have HT2 : Hid (∀ n ∈ L.nums.take 5, okNum n) := Lib.hid (by
              have h9 := HT.out
              simp only [Let.nums, List.take, List.mem_cons, List.not_mem_nil, or_false] at h9 ⊢
              intro n hn
              by_cases he : n = L.b
              · rw [he]; exact ho
              · exact h9 n (by simp_all))
            clear ho
            go_wp2_with fail
            refine Hbn.out.mono ?_
            rintro e w2 ⟨rfl, rfl⟩
            go_wp2
            go_roundw
            case rel => exact ⟨5, by omega, by go_num, HT2, Hb.out⟩
            case measure => simp [intOf]
          · rw [decide_eq_true ho] at Hbn
            have E : Hid (decide (¬ L.inside) = true) := Lib.hid (decide_eq_true (fun h => ho (h.2.1 _ (by simp [Let.nums]))))
            clear ho
            go_wp2_with fail
            refine Hbn.out.mono ?_
            rintro e w2 ⟨rfl, rfl⟩
            go_wp2
            go_ret
            exact ⟨by rw [E.out]; rfl, HB0.out.trans (Hb.out.mono HB0.out.size)⟩
        · have Hbn := Lib.hid (beyond_any L.c wr)
          by_cases ho : okNum L.c
          · rw [decide_eq_false (fun h => h ho)] at Hbn
            have HT2 : Hid (∀ n ∈ L.nums.take 6, okNum n) := Lib.hid (by
              have h9 := HT.out
              simp only [Let.nums, List.take, List.mem_cons, List.not_mem_nil, or_false] at h9 ⊢
              intro n hn
              by_cases he : n = L.c
              · rw [he]; exact ho
              · exact h9 n (by simp_all))
            clear ho
            go_wp2_with fail
            refine Hbn.out.mono ?_
            rintro e w2 ⟨rfl, rfl⟩
            go_wp2
            go_roundw
            case rel => exact ⟨6, by omega, by go_num, HT2, Hb.out⟩
            case measure => simp [intOf]
          · rw [decide_eq_true ho] at Hbn
            have E : Hid (decide (¬ L.inside) = true) := Lib.hid (decide_eq_true (fun h => ho (h.2.1 _ (by simp [Let.nums]))))
            clear ho
            go_wp2_with fail
            refine Hbn.out.mono ?_
            rintro e w2 ⟨rfl, rfl⟩
            go_wp2
            go_ret
            exact ⟨by rw [E.out]; rfl, HB0.out.trans (Hb.out.mono HB0.out.size)⟩
        · have Hbn := Lib.hid (beyond_any L.d wr)
          by_cases ho : okNum L.d
          · rw [decide_eq_false (fun h => h ho)] at Hbn
            have HT2 : Hid (∀ n ∈ L.nums.take 7, okNum n) := Lib.hid (by
              have h9 := HT.out
              simp only [Let.nums, List.take, List.mem_cons, List.not_mem_nil, or_false] at h9 ⊢
              intro n hn
              by_cases he : n = L.d
              · rw [he]; exact ho
              · exact h9 n (by simp_all))
            clear ho
            go_wp2_with fail
            refine Hbn.out.mono ?_
            rintro e w2 ⟨rfl, rfl⟩
            go_wp2
            go_roundw
            case rel => exact ⟨7, by omega, by go_num, HT2, Hb.out⟩
            case measure => simp [intOf]
          · rw [decide_eq_true ho] at Hbn
            have E : Hid (decide (¬ L.inside) = true) := Lib.hid (decide_eq_true (fun h => ho (h.2.1 _ (by simp [Let.nums]))))
            clear ho
            go_wp2_with fail
            refine Hbn.out.mono ?_
            rintro e w2 ⟨rfl, rfl⟩
            go_wp2
            go_ret
            exact ⟨by rw [E.out]; rfl, HB0.out.trans (Hb.out.mono HB0.out.size)⟩
        · have Hbn := Lib.hid (beyond_any L.code wr)
          by_cases ho : okNum L.code
          · rw [decide_eq_false (fun h => h ho)] at Hbn
            have HT2 : Hid (∀ n ∈ L.nums.take 8, okNum n) := Lib.hid (by
              have h9 := HT.out
              simp only [Let.nums, List.take, List.mem_cons, List.not_mem_nil, or_false] at h9 ⊢
              intro n hn
              by_cases he : n = L.code
              · rw [he]; exact ho
              · exact h9 n (by simp_all))
            clear ho
            go_wp2_with fail
            refine Hbn.out.mono ?_
            rintro e w2 ⟨rfl, rfl⟩
            go_wp2
            go_roundw
            case rel => exact ⟨8, by omega, by go_num, HT2, Hb.out⟩
            case measure => simp [intOf]
          · rw [decide_eq_true ho] at Hbn
            have E : Hid (decide (¬ L.inside) = true) := Lib.hid (decide_eq_true (fun h => ho (h.2.1 _ (by simp [Let.nums]))))
            clear ho
            go_wp2_with fail
            refine Hbn.out.mono ?_
            rintro e w2 ⟨rfl, rfl⟩
            go_wp2
            go_ret
            exact ⟨by rw [E.out]; rfl, HB0.out.trans (Hb.out.mono HB0.out.size)⟩
      · obtain rfl : j = 8 := by omega
        obtain ⟨-, -, ⟨-, d10⟩, -⟩ := let_cells (HLB.out wr Hb.out)
        have HC1 := Lib.hid (HCF.out wr Hb.out)
        have E : Hid ((!L.is.all okIt) = decide (¬ L.inside)) := Lib.hid (by
          have h9 : ∀ n ∈ L.nums, okNum n := HT.out
          by_cases ha : L.is.all okIt = true
          · have e : decide (¬ L.inside) = false := decide_eq_false (fun h => h ⟨hk', h9, fun i hi => of_decide_eq_true (List.all_eq_true.1 ha i hi)⟩)
            rw [ha, e]
            rfl
          · have hf : L.is.all okIt = false := by simpa using ha
            have e : decide (¬ L.inside) = true := decide_eq_true (fun h => ha (List.all_eq_true.2 fun i hi => decide_eq_true (h.2.2 i hi)))
            rw [hf, e]
            rfl)
        rw [E.out] at HC1
        clear ix0 ix1 ix2 ix3 ix4 ix5 ix6 ix7
        go_wp2_with fail
        refine HC1.out.mono ?_
        rintro e w2 ⟨rfl, b2⟩
        have HE := Lib.hid ((HB0.out.trans (Hb.out.mono HB0.out.size)).trans (b2.mono (HB0.out.trans (Hb.out.mono HB0.out.size)).size))
        clear b2
        go_wp2
        go_ret
        exact ⟨by simp, HE.out⟩
/-- what letter.Check answers -/
def LetErrPost (L : Let) (w : World) (e : Ending) (w' : World) : Prop := e = .returned (.int .i64 L.err) ∧ Below w.heap.size w w'
set_option maxRecDepth 100000 in
set_option maxHeartbeats 6400000 in
theorem letCheck_any (L : Let) (Ap : Option Addr) (np cp : Nat) (Ai : Option Addr) (ni ci : Nat) (C : Nat) (w : World) (hP : HasLps w C Ap np L.ps) (hI : HasLis w C Ai ni L.is) (hC : C ≤ w.heap.size) (hn : np ≤ maxLen ∧ ni ≤ maxLen) (ht : ∀ s ∈ L.txts, s.size ≤ 140737488355328) (htp : ∀ p ∈ L.ps, p.k.size ≤ 140737488355328 ∧ p.v.size ≤ 140737488355328) (hti : ∀ p ∈ L.is, p.e.size ≤ 140737488355328) :
    Calls Try.prog 14 #[.agg #[.int .i64 L.kind, .int .i64 L.frm, .int .i64 L.to, .int .i64 L.a, .int .i64 L.b, .int .i64 L.c, .int .i64 L.d, .string L.s, .string L.t, .slice Ap np cp, .slice Ai ni ci, .int .i64 L.code, .bool L.yes, .string L.body]] w (LetErrPost L w) := by
  have HB0 : Hid (Below w.heap.size w (w.alloc (.cells #[.int .i64 L.kind, .int .i64 L.frm, .int .i64 L.to, .int .i64 L.a, .int .i64 L.b, .int .i64 L.c, .int .i64 L.d, .string L.s, .string L.t, .slice Ap np cp, .slice Ai ni ci, .int .i64 L.code, .bool L.yes, .string L.body] 26))) := Lib.hid (below_box _)
  have HLB : Hid (∀ wx, Below (w.alloc (.cells #[.int .i64 L.kind, .int .i64 L.frm, .int .i64 L.to, .int .i64 L.a, .int .i64 L.b, .int .i64 L.c, .int .i64 L.d, .string L.s, .string L.t, .slice Ap np cp, .slice Ai ni ci, .int .i64 L.code, .bool L.yes, .string L.body] 26)).heap.size (w.alloc (.cells #[.int .i64 L.kind, .int .i64 L.frm, .int .i64 L.to, .int .i64 L.a, .int .i64 L.b, .int .i64 L.c, .int .i64 L.d, .string L.s, .string L.t, .slice Ap np cp, .slice Ai ni ci, .int .i64 L.code, .bool L.yes, .string L.body] 26)) wx → Box wx w.heap.size 26 #[.int .i64 L.kind, .int .i64 L.frm, .int .i64 L.to, .int .i64 L.a, .int .i64 L.b, .int .i64 L.c, .int .i64 L.d, .string L.s, .string L.t, .slice Ap np cp, .slice Ai ni ci, .int .i64 L.code, .bool L.yes, .string L.body]) := Lib.hid fun wx hx => (let_box hx).1
  have HO := Lib.hid (outside_any L Ap np cp Ai ni ci C (w.alloc (.cells #[.int .i64 L.kind, .int .i64 L.frm, .int .i64 L.to, .int .i64 L.a, .int .i64 L.b, .int .i64 L.c, .int .i64 L.d, .string L.s, .string L.t, .slice Ap np cp, .slice Ai ni ci, .int .i64 L.code, .bool L.yes, .string L.body] 26)) (hI.belowOf (below_box _) hC) (by simp; omega) hn.2)
  have HSz := Lib.hid (fun wx (hx : Below (w.alloc (.cells #[.int .i64 L.kind, .int .i64 L.frm, .int .i64 L.to, .int .i64 L.a, .int .i64 L.b, .int .i64 L.c, .int .i64 L.d, .string L.s, .string L.t, .slice Ap np cp, .slice Ai ni ci, .int .i64 L.code, .bool L.yes, .string L.body] 26)).heap.size (w.alloc (.cells #[.int .i64 L.kind, .int .i64 L.frm, .int .i64 L.to, .int .i64 L.a, .int .i64 L.b, .int .i64 L.c, .int .i64 L.d, .string L.s, .string L.t, .slice Ap np cp, .slice Ai ni ci, .int .i64 L.code, .bool L.yes, .string L.body] 26)) wx) (hin : L.inside) (hp : np ≤ 256) (hi : ni ≤ 256) => size_any L Ap np cp Ai ni ci C wx (hP.belowOf ((below_box _).trans (hx.mono (by simp))) hC) (hI.belowOf ((below_box _).trans (hx.mono (by simp))) hC) (by have := hx.size; simp only [World.size_alloc] at this; omega) hin hp hi ht htp hti)
  have Hlp := Lib.hid hP.1
  have Hli := Lib.hid hI.1
  unfold LetErrPost
  obtain ⟨z, hz⟩ : ∃ z, L.err = z := ⟨_, rfl⟩
  rw [hz]
  have HZ := Lib.hid hz
  obtain ⟨hn1, hn2⟩ := hn
  unfold maxLen at hn1 hn2
  clear hP hI ht htp hti hz
  by_cases hin : L.inside
  · rw [decide_eq_false (fun h => h hin)] at HO
    have Hin := Lib.hid hin
    clear hin
    go_enter Try.func14, Try.ntmps14
    go_wp2_with fail
    refine HO.out.mono ?_
    rintro e w1 ⟨rfl, b1⟩
    have Hb1 := Lib.hid b1
    have HE1 := Lib.hid (HB0.out.trans (b1.mono HB0.out.size))
    obtain ⟨-, -, ⟨d9, d10⟩, -⟩ := let_cells (HLB.out w1 b1)
    clear b1 HO
    by_cases hp : 256 < np
    · have hp' : (256 : Int) < (np : Int) := by omega
      obtain rfl : z = 4 := by rw [← HZ.out]; unfold Let.err; rw [if_neg (fun h => h Hin.out), if_pos (.inl (by rw [Hlp.out]; exact hp))]
      go_wp2
      go_ret
      exact ⟨rfl, HE1.out⟩
    have hp' : ¬ (256 : Int) < (np : Int) := by omega
    by_cases hi : 256 < ni
    · have hi' : (256 : Int) < (ni : Int) := by omega
      obtain rfl : z = 4 := by rw [← HZ.out]; unfold Let.err; rw [if_neg (fun h => h Hin.out), if_pos (.inr (.inl (by rw [Hli.out]; exact hi)))]
      go_wp2
      go_ret
      exact ⟨rfl, HE1.out⟩
    have hi' : ¬ (256 : Int) < (ni : Int) := by omega
    have HS1 := Lib.hid (HSz.out w1 Hb1.out Hin.out (by omega) (by omega))
    have hlc := let_cells (HLB.out w1 Hb1.out)
    obtain ⟨⟨d0, d1, d2, d3, d4, d5, d6⟩, ⟨d7, d8⟩, -, ⟨d11, d12, d13⟩⟩ := hlc
    obtain ⟨N, hN⟩ : ∃ N, (formsOf L.toks).length = N := ⟨_, rfl⟩
    rw [hN] at HS1
    have HNl := Lib.hid hN
    clear hN HSz
    go_wp2_with fail
    refine HS1.out.mono ?_
    rintro e w2 ⟨rfl, b2⟩
    have HE2 := Lib.hid (HE1.out.trans (b2.mono HE1.out.size))
    clear b2 HS1
    by_cases h6 : 65536 < N
    · have h6' : (65536 : Int) < (N : Int) := by omega
      obtain rfl : z = 4 := by rw [← HZ.out]; unfold Let.err; rw [if_neg (fun h => h Hin.out), if_pos (.inr (.inr (by rw [HNl.out]; exact h6)))]
      go_wp2
      go_ret
      exact ⟨rfl, HE2.out⟩
    have h6' : ¬ (65536 : Int) < (N : Int) := by omega
    obtain rfl : z = 0 := by rw [← HZ.out]; unfold Let.err; rw [if_neg (fun h => h Hin.out), if_neg (by rw [Hlp.out, Hli.out, HNl.out]; omega)]
    go_wp2
    go_ret
    exact ⟨rfl, HE2.out⟩
  · rw [decide_eq_true hin] at HO
    obtain rfl : z = 1 := by rw [← HZ.out]; unfold Let.err; exact if_pos hin
    clear hin
    go_enter Try.func14, Try.ntmps14
    go_wp2_with fail
    refine HO.out.mono ?_
    rintro e w1 ⟨rfl, b1⟩
    have HE1 := Lib.hid (HB0.out.trans (b1.mono HB0.out.size))
    clear b1
    go_wp2
    go_ret
    exact ⟨rfl, HE1.out⟩
end Go.Proofs.Ytabcoidjbigdbaa

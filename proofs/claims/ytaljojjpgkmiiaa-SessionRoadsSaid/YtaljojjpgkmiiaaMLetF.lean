/- letter.Pack: a letter's bytes. Condition: texts shorter than 2^47 bytes. -/
import Derived.Test.YtaljojjpgkmiiaaMLetE
import Derived.Test.YtaljojjpgkmiiaaMMem
namespace Go.Proofs.Ytaljojjpgkmiiaa
open Go.RowKit
open Go.Lib (strCells)

def okI (n : Int) : Bool := decide (okNum n)
def okIt (i : LIt) : Bool := okI i.v
theorem all_take_succL {l : List LIt} {k : Nat} {v : LIt} (h : ∀ v ∈ l.take k, okIt v = true) (hv : l[k]? = some v) (hg : okIt v = true) : ∀ v ∈ l.take (k + 1), okIt v = true := by
  rw [take_snocA hv]
  intro x hx
  rcases List.mem_append.1 hx with h1 | h1
  · exact h x h1
  · simp at h1; subst h1; exact hg
theorem ret_boolL {a b : Bool} (h : a = b) : Ending.returned (.bool a) = Ending.returned (.bool b) := by rw [h]
set_option maxRecDepth 100000 in
theorem outFn_any (s : ByteArray) (n : Int) (g : Bool) (w : World) :
    Calls Try.prog 112 #[.agg #[.string s, .int .i64 n, .bool g]] w fun e w' => e = .returned (.bool (!okI n)) ∧ Below w.heap.size w w' := by
  have Hb := Lib.hid (beyond_any n (w.alloc (.cells #[.string s, .int .i64 n, .bool g] 96)))
  have e1 : decide (¬ okNum n) = !okI n := by unfold okI; by_cases h : okNum n <;> simp [h]
  rw [e1] at Hb
  have HE := Lib.hid (below_box (w := w) (Obj.cells #[.string s, .int .i64 n, .bool g] 96))
  clear e1
  go_enter Try.func112, Try.ntmps112
  go_wp2_with fail
  refine Hb.out.mono ?_
  rintro e w1 ⟨rfl, rfl⟩
  go_wp2
  go_ret
  exact ⟨rfl, HE.out⟩
def IdxPostL (l : List LIt) (w : World) (e : Ending) (w' : World) : Prop := ∃ i : Int, e = .returned (.int .i64 i) ∧ decide (0 ≤ i) = !l.all okIt ∧ Below w.heap.size w w'
theorem indexFuncL_any (A : Option Addr) (n c B : Nat) (l : List LIt) (w : World) (h : HasLis w B A n l) (hn : n ≤ maxLen) (hw : B ≤ w.heap.size) :
    Calls Try.prog 125 #[.slice A n c, .func (.func 112) #[] #[]] w (IdxPostL l w) := by
  unfold maxLen at hn
  have H := Lib.hid h
  clear h
  have Hl := Lib.hid H.out.1
  go_enter Try.func125, Try.ntmps125
  go_wp2
  go_loopw [5, 8] (fun _ i wr => ∃ k : Nat, k ≤ n ∧ i = .int .i64 (k : Int) ∧ Hid (∀ v ∈ l.take k, okIt v = true) ∧ Below w.heap.size w wr) (fun _ i _ => n - (intOf i).toNat)
  case atStart => exact ⟨0, by omega, rfl, Lib.hid (by simp), Below.refl _ _⟩
  case round =>
    obtain ⟨k, hk, rfl, Hg, hb⟩ := hrel
    by_cases hlt : k < n
    · have H1 := Lib.hid (H.out.belowOf hb hw)
      obtain ⟨a, v, rfl, _, hv, c0, c1, c2⟩ := H1.out.at_ hlt
      have Hv := Lib.hid hv
      have Hb := Lib.hid hb
      have hsz := hb.size
      clear hv hb
      cases hg : okI v.v with
      | true =>
        have Hgv : Hid (okIt v = true) := Lib.hid hg
        go_wp2_with fail
        refine (outFn_any _ _ _ _).mono ?_
        rintro e w1 ⟨rfl, hb1⟩
        have Hb1 := Lib.hid (Hb.out.trans (hb1.mono hsz))
        clear hb1
        go_wp2
        go_roundw
        case rel => exact ⟨k + 1, by omega, by go_num, Lib.hid (all_take_succL Hg.out Hv.out Hgv.out), Hb1.out⟩
        case measure => simp [intOf]; omega
      | false =>
        have E : Hid (decide ((0 : Int) ≤ (k : Int)) = !l.all okIt) := Lib.hid (by
          have : l.all okIt = false := by
            rw [← Bool.not_eq_true]
            intro ha
            have := List.all_eq_true.1 ha v (List.mem_of_getElem? Hv.out)
            rw [show okIt v = okI v.v from rfl, hg] at this
            cases this
          rw [this]
          simp)
        go_wp2_with fail
        refine (outFn_any _ _ _ _).mono ?_
        rintro e w1 ⟨rfl, hb1⟩
        have Hb1 := Lib.hid (Hb.out.trans (hb1.mono hsz))
        clear hb1
        go_wp2
        go_ret
        exact ⟨k, rfl, E.out, Hb1.out⟩
    · obtain rfl : k = n := by omega
      have E : Hid (decide ((0 : Int) ≤ -1) = !l.all okIt) := Lib.hid (by
        have : l.all okIt = true := List.all_eq_true.2 (by have := Hg.out; rwa [List.take_of_length_le (by have := Hl.out; omega)] at this)
        rw [this]
        rfl)
      have Hb := Lib.hid hb
      clear hb
      go_wp2
      go_ret
      exact ⟨-1, rfl, E.out, Hb.out⟩

theorem containsFuncL_any (A : Option Addr) (n c B : Nat) (l : List LIt) (w : World) (h : HasLis w B A n l) (hn : n ≤ maxLen) (hw : B ≤ w.heap.size) :
    Calls Try.prog 111 #[.slice A n c, .func (.func 112) #[] #[]] w fun e w' => e = .returned (.bool (!l.all okIt)) ∧ Below w.heap.size w w' := by
  have H := Lib.hid h
  clear h
  go_enter Try.func111, Try.ntmps111
  go_wp2_with fail
  refine (indexFuncL_any A n c B l w H.out hn hw).mono ?_
  rintro e w1 ⟨i, rfl, hi, hb1⟩
  have Hi := Lib.hid hi
  have Hb1 := Lib.hid hb1
  clear hi hb1
  go_wp2
  go_ret
  exact ⟨ret_boolL Hi.out, Hb1.out⟩
set_option maxRecDepth 100000 in
set_option maxHeartbeats 6400000 in
theorem outside_any (L : Let) (Ap : Option Addr) (np cp : Nat) (Ai : Option Addr) (ni ci : Nat) (C : Nat) (w : World) (hI : HasLis w C Ai ni L.is) (hC : C ≤ w.heap.size) (hn : ni ≤ maxLen) :
    Calls Try.prog 87 #[.agg #[.int .i64 L.kind, .int .i64 L.frm, .int .i64 L.to, .int .i64 L.a, .int .i64 L.b, .int .i64 L.c, .int .i64 L.d, .string L.s, .string L.t, .slice Ap np cp, .slice Ai ni ci, .int .i64 L.code, .bool L.yes, .string L.body]] w fun e w' => e = .returned (.bool (decide (¬ L.inside))) ∧ Below w.heap.size w w' := by
  have HB0 : Hid (Below w.heap.size w (w.alloc (.cells #[.int .i64 L.kind, .int .i64 L.frm, .int .i64 L.to, .int .i64 L.a, .int .i64 L.b, .int .i64 L.c, .int .i64 L.d, .string L.s, .string L.t, .slice Ap np cp, .slice Ai ni ci, .int .i64 L.code, .bool L.yes, .string L.body] 69))) := Lib.hid (below_box _)
  have HLB : Hid (∀ wx, Below (w.alloc (.cells #[.int .i64 L.kind, .int .i64 L.frm, .int .i64 L.to, .int .i64 L.a, .int .i64 L.b, .int .i64 L.c, .int .i64 L.d, .string L.s, .string L.t, .slice Ap np cp, .slice Ai ni ci, .int .i64 L.code, .bool L.yes, .string L.body] 69)).heap.size (w.alloc (.cells #[.int .i64 L.kind, .int .i64 L.frm, .int .i64 L.to, .int .i64 L.a, .int .i64 L.b, .int .i64 L.c, .int .i64 L.d, .string L.s, .string L.t, .slice Ap np cp, .slice Ai ni ci, .int .i64 L.code, .bool L.yes, .string L.body] 69)) wx → Box wx w.heap.size 69 #[.int .i64 L.kind, .int .i64 L.frm, .int .i64 L.to, .int .i64 L.a, .int .i64 L.b, .int .i64 L.c, .int .i64 L.d, .string L.s, .string L.t, .slice Ap np cp, .slice Ai ni ci, .int .i64 L.code, .bool L.yes, .string L.body]) := Lib.hid fun wx hx => (let_box hx).1
  have HCF := Lib.hid (fun wx (hx : Below (w.alloc (.cells #[.int .i64 L.kind, .int .i64 L.frm, .int .i64 L.to, .int .i64 L.a, .int .i64 L.b, .int .i64 L.c, .int .i64 L.d, .string L.s, .string L.t, .slice Ap np cp, .slice Ai ni ci, .int .i64 L.code, .bool L.yes, .string L.body] 69)).heap.size (w.alloc (.cells #[.int .i64 L.kind, .int .i64 L.frm, .int .i64 L.to, .int .i64 L.a, .int .i64 L.b, .int .i64 L.c, .int .i64 L.d, .string L.s, .string L.t, .slice Ap np cp, .slice Ai ni ci, .int .i64 L.code, .bool L.yes, .string L.body] 69)) wx) => containsFuncL_any Ai ni ci C L.is wx (hI.belowOf ((below_box _).trans (hx.mono (by simp))) hC) hn (by have := hx.size; simp only [World.size_alloc] at this; omega))
  clear hI
  by_cases hk : 255 < L.kind
  · have E : Hid (decide (¬ L.inside) = true) := Lib.hid (decide_eq_true (fun h => by have := h.1; omega))
    rw [E.out]
    go_enter Try.func87, Try.ntmps87
    go_wp2
    go_ret
    exact ⟨rfl, HB0.out⟩
  · have hk' : L.kind ≤ 255 := by omega
    have ix0 : ∀ wx, (Instr.index 143 (.agg #[.int .i64 L.kind, .int .i64 L.frm, .int .i64 L.to, .int .i64 L.a, .int .i64 L.b, .int .i64 L.c, .int .i64 L.d, .int .i64 L.code]) (.int .i64 0)).run Try.prog wx = .ok (.int .i64 L.kind) wx := fun _ => by kernel_rfl
    have ix1 : ∀ wx, (Instr.index 143 (.agg #[.int .i64 L.kind, .int .i64 L.frm, .int .i64 L.to, .int .i64 L.a, .int .i64 L.b, .int .i64 L.c, .int .i64 L.d, .int .i64 L.code]) (.int .i64 1)).run Try.prog wx = .ok (.int .i64 L.frm) wx := fun _ => by kernel_rfl
    have ix2 : ∀ wx, (Instr.index 143 (.agg #[.int .i64 L.kind, .int .i64 L.frm, .int .i64 L.to, .int .i64 L.a, .int .i64 L.b, .int .i64 L.c, .int .i64 L.d, .int .i64 L.code]) (.int .i64 2)).run Try.prog wx = .ok (.int .i64 L.to) wx := fun _ => by kernel_rfl
    have ix3 : ∀ wx, (Instr.index 143 (.agg #[.int .i64 L.kind, .int .i64 L.frm, .int .i64 L.to, .int .i64 L.a, .int .i64 L.b, .int .i64 L.c, .int .i64 L.d, .int .i64 L.code]) (.int .i64 3)).run Try.prog wx = .ok (.int .i64 L.a) wx := fun _ => by kernel_rfl
    have ix4 : ∀ wx, (Instr.index 143 (.agg #[.int .i64 L.kind, .int .i64 L.frm, .int .i64 L.to, .int .i64 L.a, .int .i64 L.b, .int .i64 L.c, .int .i64 L.d, .int .i64 L.code]) (.int .i64 4)).run Try.prog wx = .ok (.int .i64 L.b) wx := fun _ => by kernel_rfl
    have ix5 : ∀ wx, (Instr.index 143 (.agg #[.int .i64 L.kind, .int .i64 L.frm, .int .i64 L.to, .int .i64 L.a, .int .i64 L.b, .int .i64 L.c, .int .i64 L.d, .int .i64 L.code]) (.int .i64 5)).run Try.prog wx = .ok (.int .i64 L.c) wx := fun _ => by kernel_rfl
    have ix6 : ∀ wx, (Instr.index 143 (.agg #[.int .i64 L.kind, .int .i64 L.frm, .int .i64 L.to, .int .i64 L.a, .int .i64 L.b, .int .i64 L.c, .int .i64 L.d, .int .i64 L.code]) (.int .i64 6)).run Try.prog wx = .ok (.int .i64 L.d) wx := fun _ => by kernel_rfl
    have ix7 : ∀ wx, (Instr.index 143 (.agg #[.int .i64 L.kind, .int .i64 L.frm, .int .i64 L.to, .int .i64 L.a, .int .i64 L.b, .int .i64 L.c, .int .i64 L.d, .int .i64 L.code]) (.int .i64 7)).run Try.prog wx = .ok (.int .i64 L.code) wx := fun _ => by kernel_rfl
    clear hk
    go_enter Try.func87, Try.ntmps87
    go_wp2_with fail
    refine (numbers_any L Ap np cp Ai ni ci _).mono ?_
    rintro e w1 ⟨rfl, b1⟩
    have HB1 := Lib.hid b1
    clear b1
    go_wp2
    go_loopw [4, 10] (fun _ iv wr => ∃ j : Nat, j ≤ 8 ∧ iv = .int .i64 (j : Int) ∧ Hid (∀ n ∈ L.nums.take j, okNum n) ∧ Below (w.alloc (.cells #[.int .i64 L.kind, .int .i64 L.frm, .int .i64 L.to, .int .i64 L.a, .int .i64 L.b, .int .i64 L.c, .int .i64 L.d, .string L.s, .string L.t, .slice Ap np cp, .slice Ai ni ci, .int .i64 L.code, .bool L.yes, .string L.body] 69)).heap.size (w.alloc (.cells #[.int .i64 L.kind, .int .i64 L.frm, .int .i64 L.to, .int .i64 L.a, .int .i64 L.b, .int .i64 L.c, .int .i64 L.d, .string L.s, .string L.t, .slice Ap np cp, .slice Ai ni ci, .int .i64 L.code, .bool L.yes, .string L.body] 69)) wr) (fun _ iv _ => 8 - (intOf iv).toNat)
    case atStart => exact ⟨0, by omega, rfl, Lib.hid (by simp), HB1.out⟩
    case round =>
      clear HB1
      obtain ⟨j, hj, rfl, HT, hb⟩ := hrel
      have Hb := Lib.hid hb
      clear hb
      by_cases hlt : j < 8
      · have hc : j = 0 ∨ j = 1 ∨ j = 2 ∨ j = 3 ∨ j = 4 ∨ j = 5 ∨ j = 6 ∨ j = 7 := by omega
        clear hj hlt
        rcases hc with rfl | rfl | rfl | rfl | rfl | rfl | rfl | rfl
        · have Hbn := Lib.hid (beyond_any L.kind wr)
          by_cases ho : okNum L.kind
          · rw [decide_eq_false (fun h => h ho)] at Hbn
            have HT2 : Hid (∀ n ∈ L.nums.take 1, okNum n) := Lib.hid (by
              have h9 := HT.out
              simp only [Let.nums, List.take, List.mem_cons, List.not_mem_nil, or_false] at h9 ⊢
              intro n hn
              by_cases he : n = L.kind
              · rw [he]; exact ho
              · exact h9 n (by simp_all))
            clear ho
            go_wp2_with fail
            refine Hbn.out.mono ?_
            rintro e w2 ⟨rfl, rfl⟩
            go_wp2
            go_roundw
            case rel => exact ⟨1, by omega, by go_num, HT2, Hb.out⟩
            case measure => simp [intOf]
          · rw [decide_eq_true ho] at Hbn
            have E : Hid (decide (¬ L.inside) = true) := Lib.hid (decide_eq_true (fun h => ho (h.2.1 _ (by simp [Let.nums]))))
            clear ho
            go_wp2_with fail
            refine Hbn.out.mono ?_
            rintro e w2 ⟨rfl, rfl⟩
            go_wp2
            go_ret
            exact ⟨by rw [E.out]; rfl, HB0.out.trans (Hb.out.mono HB0.out.size)⟩
        · have Hbn := Lib.hid (beyond_any L.frm wr)
          by_cases ho : okNum L.frm
          · rw [decide_eq_false (fun h => h ho)] at Hbn
            have HT2 : Hid (∀ n ∈ L.nums.take 2, okNum n) := Lib.hid (by
              have h9 := HT.out
              simp only [Let.nums, List.take, List.mem_cons, List.not_mem_nil, or_false] at h9 ⊢
              intro n hn
              by_cases he : n = L.frm
              · rw [he]; exact ho
              · exact h9 n (by simp_all))
            clear ho
            go_wp2_with fail
            refine Hbn.out.mono ?_
            rintro e w2 ⟨rfl, rfl⟩
            go_wp2
            go_roundw
            case rel => exact ⟨2, by omega, by go_num, HT2, Hb.out⟩
            case measure => simp [intOf]
          · rw [decide_eq_true ho] at Hbn
            have E : Hid (decide (¬ L.inside) = true) := Lib.hid (decide_eq_true (fun h => ho (h.2.1 _ (by simp [Let.nums]))))
            clear ho
            go_wp2_with fail
            refine Hbn.out.mono ?_
            rintro e w2 ⟨rfl, rfl⟩
            go_wp2
            go_ret
            exact ⟨by rw [E.out]; rfl, HB0.out.trans (Hb.out.mono HB0.out.size)⟩
        · have Hbn := Lib.hid (beyond_any L.to wr)
          by_cases ho : okNum L.to
          · rw [decide_eq_false (fun h => h ho)] at Hbn
            have HT2 : Hid (∀ n ∈ L.nums.take 3, okNum n) := Lib.hid (by
              have h9 := HT.out
              simp only [Let.nums, List.take, List.mem_cons, List.not_mem_nil, or_false] at h9 ⊢
              intro n hn
              by_cases he : n = L.to
              · rw [he]; exact ho
              · exact h9 n (by simp_all))
            clear ho
            go_wp2_with fail
            refine Hbn.out.mono ?_
            rintro e w2 ⟨rfl, rfl⟩
            go_wp2
            go_roundw
            case rel => exact ⟨3, by omega, by go_num, HT2, Hb.out⟩
            case measure => simp [intOf]
          · rw [decide_eq_true ho] at Hbn
            have E : Hid (decide (¬ L.inside) = true) := Lib.hid (decide_eq_true (fun h => ho (h.2.1 _ (by simp [Let.nums]))))
            clear ho
            go_wp2_with fail
            refine Hbn.out.mono ?_
            rintro e w2 ⟨rfl, rfl⟩
            go_wp2
            go_ret
            exact ⟨by rw [E.out]; rfl, HB0.out.trans (Hb.out.mono HB0.out.size)⟩
        · have Hbn := Lib.hid (beyond_any L.a wr)
          by_cases ho : okNum L.a
          · rw [decide_eq_false (fun h => h ho)] at Hbn
            have HT2 : Hid (∀ n ∈ L.nums.take 4, okNum n) := Lib.hid (by
              have h9 := HT.out
              simp only [Let.nums, List.take, List.mem_cons, List.not_mem_nil, or_false] at h9 ⊢
              intro n hn
              by_cases he : n = L.a
              · rw [he]; exact ho
              · exact h9 n (by simp_all))
            clear ho
            go_wp2_with fail
            refine Hbn.out.mono ?_
            rintro e w2 ⟨rfl, rfl⟩
            go_wp2
            go_roundw
            case rel => exact ⟨4, by omega, by go_num, HT2, Hb.out⟩
            case measure => simp [intOf]
          · rw [decide_eq_true ho] at Hbn
            have E : Hid (decide (¬ L.inside) = true) := Lib.hid (decide_eq_true (fun h => ho (h.2.1 _ (by simp [Let.nums]))))
            clear ho
            go_wp2_with fail
            refine Hbn.out.mono ?_
            rintro e w2 ⟨rfl, rfl⟩
            go_wp2
            go_ret
            exact ⟨by rw [E.out]; rfl, HB0.out.trans (Hb.out.mono HB0.out.size)⟩
        · have Hbn := Lib.hid (beyond_any L.b wr)
          by_cases ho : okNum L.b
          · rw [decide_eq_false (fun h => h ho)] at Hbn
            have HT2 : Hid (∀ n ∈ L.nums.take 5, okNum n) := Lib.hid (by
              have h9 := HT.out
              simp only [Let.nums, List.take, List.mem_cons, List.not_mem_nil, or_false] at h9 ⊢
              intro n hn
              by_cases he : n = L.b
              · rw [he]; exact ho
              · exact h9 n (by simp_all))
            clear ho
            go_wp2_with fail
            refine Hbn.out.mono ?_
            rintro e w2 ⟨rfl, rfl⟩
            go_wp2
            go_roundw
            case rel => exact ⟨5, by omega, by go_num, HT2, Hb.out⟩
            case measure => simp [intOf]
          · rw [decide_eq_true ho] at Hbn
            have E : Hid (decide (¬ L.inside) = true) := Lib.hid (decide_eq_true (fun h => ho (h.2.1 _ (by simp [Let.nums]))))
            clear ho
            go_wp2_with fail
            refine Hbn.out.mono ?_
            rintro e w2 ⟨rfl, rfl⟩
            go_wp2
            go_ret
            exact ⟨by rw [E.out]; rfl, HB0.out.trans (Hb.out.mono HB0.out.size)⟩
        · have Hbn := Lib.hid (beyond_any L.c wr)
          by_cases ho : okNum L.c
          · rw [decide_eq_false (fun h => h ho)] at Hbn
            have HT2 : Hid (∀ n ∈ L.nums.take 6, okNum n) := Lib.hid (by
              have h9 := HT.out
              simp only [Let.nums, List.take, List.mem_cons, List.not_mem_nil, or_false] at h9 ⊢
              intro n hn
              by_cases he : n = L.c
              · rw [he]; exact ho
              · exact h9 n (by simp_all))
            clear ho
            go_wp2_with fail
            refine Hbn.out.mono ?_
            rintro e w2 ⟨rfl, rfl⟩
            go_wp2
            go_roundw
            case rel => exact ⟨6, by omega, by go_num, HT2, Hb.out⟩
            case measure => simp [intOf]
          · rw [decide_eq_true ho] at Hbn
            have E : Hid (decide (¬ L.inside) = true) := Lib.hid (decide_eq_true (fun h => ho (h.2.1 _ (by simp [Let.nums]))))
            clear ho
            go_wp2_with fail
            refine Hbn.out.mono ?_
            rintro e w2 ⟨rfl, rfl⟩
            go_wp2
            go_ret
            exact ⟨by rw [E.out]; rfl, HB0.out.trans (Hb.out.mono HB0.out.size)⟩
        · have Hbn := Lib.hid (beyond_any L.d wr)
          by_cases ho : okNum L.d
          · rw [decide_eq_false (fun h => h ho)] at Hbn
            have HT2 : Hid (∀ n ∈ L.nums.take 7, okNum n) := Lib.hid (by
              have h9 := HT.out
              simp only [Let.nums, List.take, List.mem_cons, List.not_mem_nil, or_false] at h9 ⊢
              intro n hn
              by_cases he : n = L.d
              · rw [he]; exact ho
              · exact h9 n (by simp_all))
            clear ho
            go_wp2_with fail
            refine Hbn.out.mono ?_
            rintro e w2 ⟨rfl, rfl⟩
            go_wp2
            go_roundw
            case rel => exact ⟨7, by omega, by go_num, HT2, Hb.out⟩
            case measure => simp [intOf]
          · rw [decide_eq_true ho] at Hbn
            have E : Hid (decide (¬ L.inside) = true) := Lib.hid (decide_eq_true (fun h => ho (h.2.1 _ (by simp [Let.nums]))))
            clear ho
            go_wp2_with fail
            refine Hbn.out.mono ?_
            rintro e w2 ⟨rfl, rfl⟩
            go_wp2
            go_ret
            exact ⟨by rw [E.out]; rfl, HB0.out.trans (Hb.out.mono HB0.out.size)⟩
        · have Hbn := Lib.hid (beyond_any L.code wr)
          by_cases ho : okNum L.code
          · rw [decide_eq_false (fun h => h ho)] at Hbn
            have HT2 : Hid (∀ n ∈ L.nums.take 8, okNum n) := Lib.hid (by
              have h9 := HT.out
              simp only [Let.nums, List.take, List.mem_cons, List.not_mem_nil, or_false] at h9 ⊢
              intro n hn
              by_cases he : n = L.code
              · rw [he]; exact ho
              · exact h9 n (by simp_all))
            clear ho
            go_wp2_with fail
            refine Hbn.out.mono ?_
            rintro e w2 ⟨rfl, rfl⟩
            go_wp2
            go_roundw
            case rel => exact ⟨8, by omega, by go_num, HT2, Hb.out⟩
            case measure => simp [intOf]
          · rw [decide_eq_true ho] at Hbn
            have E : Hid (decide (¬ L.inside) = true) := Lib.hid (decide_eq_true (fun h => ho (h.2.1 _ (by simp [Let.nums]))))
            clear ho
            go_wp2_with fail
            refine Hbn.out.mono ?_
            rintro e w2 ⟨rfl, rfl⟩
            go_wp2
            go_ret
            exact ⟨by rw [E.out]; rfl, HB0.out.trans (Hb.out.mono HB0.out.size)⟩
      · obtain rfl : j = 8 := by omega
        obtain ⟨-, -, ⟨-, d10⟩, -⟩ := let_cells (HLB.out wr Hb.out)
        have HC1 := Lib.hid (HCF.out wr Hb.out)
        have E : Hid ((!L.is.all okIt) = decide (¬ L.inside)) := Lib.hid (by
          have h9 : ∀ n ∈ L.nums, okNum n := HT.out
          by_cases ha : L.is.all okIt = true
          · have e : decide (¬ L.inside) = false := decide_eq_false (fun h => h ⟨hk', h9, fun i hi => of_decide_eq_true (List.all_eq_true.1 ha i hi)⟩)
            rw [ha, e]
            rfl
          · have hf : L.is.all okIt = false := by simpa using ha
            have e : decide (¬ L.inside) = true := decide_eq_true (fun h => ha (List.all_eq_true.2 fun i hi => decide_eq_true (h.2.2 i hi)))
            rw [hf, e]
            rfl)
        rw [E.out] at HC1
        clear ix0 ix1 ix2 ix3 ix4 ix5 ix6 ix7
        go_wp2_with fail
        refine HC1.out.mono ?_
        rintro e w2 ⟨rfl, b2⟩
        have HE := Lib.hid ((HB0.out.trans (Hb.out.mono HB0.out.size)).trans (b2.mono (HB0.out.trans (Hb.out.mono HB0.out.size)).size))
        clear b2
        go_wp2
        go_ret
        exact ⟨by simp, HE.out⟩
/-- what letter.Check answers -/
def LetErrPost (L : Let) (w : World) (e : Ending) (w' : World) : Prop := e = .returned (.int .i64 L.err) ∧ Below w.heap.size w w'
set_option maxRecDepth 100000 in
set_option maxHeartbeats 6400000 in
theorem letCheck_any (L : Let) (Ap : Option Addr) (np cp : Nat) (Ai : Option Addr) (ni ci : Nat) (C : Nat) (w : World) (hP : HasLps w C Ap np L.ps) (hI : HasLis w C Ai ni L.is) (hC : C ≤ w.heap.size) (hn : np ≤ maxLen ∧ ni ≤ maxLen) (ht : ∀ s ∈ L.txts, s.size ≤ 140737488355328) (htp : ∀ p ∈ L.ps, p.k.size ≤ 140737488355328 ∧ p.v.size ≤ 140737488355328) (hti : ∀ p ∈ L.is, p.e.size ≤ 140737488355328) :
    Calls Try.prog 56 #[.agg #[.int .i64 L.kind, .int .i64 L.frm, .int .i64 L.to, .int .i64 L.a, .int .i64 L.b, .int .i64 L.c, .int .i64 L.d, .string L.s, .string L.t, .slice Ap np cp, .slice Ai ni ci, .int .i64 L.code, .bool L.yes, .string L.body]] w (LetErrPost L w) := by
  have HB0 : Hid (Below w.heap.size w (w.alloc (.cells #[.int .i64 L.kind, .int .i64 L.frm, .int .i64 L.to, .int .i64 L.a, .int .i64 L.b, .int .i64 L.c, .int .i64 L.d, .string L.s, .string L.t, .slice Ap np cp, .slice Ai ni ci, .int .i64 L.code, .bool L.yes, .string L.body] 69))) := Lib.hid (below_box _)
  have HLB : Hid (∀ wx, Below (w.alloc (.cells #[.int .i64 L.kind, .int .i64 L.frm, .int .i64 L.to, .int .i64 L.a, .int .i64 L.b, .int .i64 L.c, .int .i64 L.d, .string L.s, .string L.t, .slice Ap np cp, .slice Ai ni ci, .int .i64 L.code, .bool L.yes, .string L.body] 69)).heap.size (w.alloc (.cells #[.int .i64 L.kind, .int .i64 L.frm, .int .i64 L.to, .int .i64 L.a, .int .i64 L.b, .int .i64 L.c, .int .i64 L.d, .string L.s, .string L.t, .slice Ap np cp, .slice Ai ni ci, .int .i64 L.code, .bool L.yes, .string L.body] 69)) wx → Box wx w.heap.size 69 #[.int .i64 L.kind, .int .i64 L.frm, .int .i64 L.to, .int .i64 L.a, .int .i64 L.b, .int .i64 L.c, .int .i64 L.d, .string L.s, .string L.t, .slice Ap np cp, .slice Ai ni ci, .int .i64 L.code, .bool L.yes, .string L.body]) := Lib.hid fun wx hx => (let_box hx).1
  have HO := Lib.hid (outside_any L Ap np cp Ai ni ci C (w.alloc (.cells #[.int .i64 L.kind, .int .i64 L.frm, .int .i64 L.to, .int .i64 L.a, .int .i64 L.b, .int .i64 L.c, .int .i64 L.d, .string L.s, .string L.t, .slice Ap np cp, .slice Ai ni ci, .int .i64 L.code, .bool L.yes, .string L.body] 69)) (hI.belowOf (below_box _) hC) (by simp; omega) hn.2)
  have HSz := Lib.hid (fun wx (hx : Below (w.alloc (.cells #[.int .i64 L.kind, .int .i64 L.frm, .int .i64 L.to, .int .i64 L.a, .int .i64 L.b, .int .i64 L.c, .int .i64 L.d, .string L.s, .string L.t, .slice Ap np cp, .slice Ai ni ci, .int .i64 L.code, .bool L.yes, .string L.body] 69)).heap.size (w.alloc (.cells #[.int .i64 L.kind, .int .i64 L.frm, .int .i64 L.to, .int .i64 L.a, .int .i64 L.b, .int .i64 L.c, .int .i64 L.d, .string L.s, .string L.t, .slice Ap np cp, .slice Ai ni ci, .int .i64 L.code, .bool L.yes, .string L.body] 69)) wx) (hin : L.inside) (hp : np ≤ 256) (hi : ni ≤ 256) => size_any L Ap np cp Ai ni ci C wx (hP.belowOf ((below_box _).trans (hx.mono (by simp))) hC) (hI.belowOf ((below_box _).trans (hx.mono (by simp))) hC) (by have := hx.size; simp only [World.size_alloc] at this; omega) hin hp hi ht htp hti)
  have Hlp := Lib.hid hP.1
  have Hli := Lib.hid hI.1
  unfold LetErrPost
  obtain ⟨z, hz⟩ : ∃ z, L.err = z := ⟨_, rfl⟩
  rw [hz]
  have HZ := Lib.hid hz
  obtain ⟨hn1, hn2⟩ := hn
  unfold maxLen at hn1 hn2
  clear hP hI ht htp hti hz
  by_cases hin : L.inside
  · rw [decide_eq_false (fun h => h hin)] at HO
    have Hin := Lib.hid hin
    clear hin
    go_enter Try.func56, Try.ntmps56
    go_wp2_with fail
    refine HO.out.mono ?_
    rintro e w1 ⟨rfl, b1⟩
    have Hb1 := Lib.hid b1
    have HE1 := Lib.hid (HB0.out.trans (b1.mono HB0.out.size))
    obtain ⟨-, -, ⟨d9, d10⟩, -⟩ := let_cells (HLB.out w1 b1)
    clear b1 HO
    by_cases hp : 256 < np
    · have hp' : (256 : Int) < (np : Int) := by omega
      obtain rfl : z = 4 := by rw [← HZ.out]; unfold Let.err; rw [if_neg (fun h => h Hin.out), if_pos (.inl (by rw [Hlp.out]; exact hp))]
      go_wp2
      go_ret
      exact ⟨rfl, HE1.out⟩
    have hp' : ¬ (256 : Int) < (np : Int) := by omega
    by_cases hi : 256 < ni
    · have hi' : (256 : Int) < (ni : Int) := by omega
      obtain rfl : z = 4 := by rw [← HZ.out]; unfold Let.err; rw [if_neg (fun h => h Hin.out), if_pos (.inr (.inl (by rw [Hli.out]; exact hi)))]
      go_wp2
      go_ret
      exact ⟨rfl, HE1.out⟩
    have hi' : ¬ (256 : Int) < (ni : Int) := by omega
    have HS1 := Lib.hid (HSz.out w1 Hb1.out Hin.out (by omega) (by omega))
    have hlc := let_cells (HLB.out w1 Hb1.out)
    obtain ⟨⟨d0, d1, d2, d3, d4, d5, d6⟩, ⟨d7, d8⟩, -, ⟨d11, d12, d13⟩⟩ := hlc
    obtain ⟨N, hN⟩ : ∃ N, (formsOf L.toks).length = N := ⟨_, rfl⟩
    rw [hN] at HS1
    have HNl := Lib.hid hN
    clear hN HSz
    go_wp2_with fail
    refine HS1.out.mono ?_
    rintro e w2 ⟨rfl, b2⟩
    have HE2 := Lib.hid (HE1.out.trans (b2.mono HE1.out.size))
    clear b2 HS1
    by_cases h6 : 65536 < N
    · have h6' : (65536 : Int) < (N : Int) := by omega
      obtain rfl : z = 4 := by rw [← HZ.out]; unfold Let.err; rw [if_neg (fun h => h Hin.out), if_pos (.inr (.inr (by rw [HNl.out]; exact h6)))]
      go_wp2
      go_ret
      exact ⟨rfl, HE2.out⟩
    have h6' : ¬ (65536 : Int) < (N : Int) := by omega
    obtain rfl : z = 0 := by rw [← HZ.out]; unfold Let.err; rw [if_neg (fun h => h Hin.out), if_neg (by rw [Hlp.out, Hli.out, HNl.out]; omega)]
    go_wp2
    go_ret
    exact ⟨rfl, HE2.out⟩
  · rw [decide_eq_true hin] at HO
    obtain rfl : z = 1 := by rw [← HZ.out]; unfold Let.err; exact if_pos hin
    clear hin
    go_enter Try.func56, Try.ntmps56
    go_wp2_with fail
    refine HO.out.mono ?_
    rintro e w1 ⟨rfl, b1⟩
    have HE1 := Lib.hid (HB0.out.trans (b1.mono HB0.out.size))
    clear b1
    go_wp2
    go_ret
    exact ⟨rfl, HE1.out⟩
end Go.Proofs.Ytaljojjpgkmiiaa

namespace Go.Proofs.Ytaljojjpgkmiiaa
open Go.RowKit
open Go.Lib (strCells)

def Let.packed (L : Let) : List UInt8 := if L.err = 0 then formsOf L.toks else []
theorem err_zero {L : Let} : L.err = 0 ↔ L.inside ∧ L.ps.length ≤ 256 ∧ L.is.length ≤ 256 ∧ (formsOf L.toks).length ≤ 65536 := by
  unfold Let.err
  by_cases h1 : L.inside
  · rw [if_neg (fun h => h h1)]
    by_cases h2 : 256 < L.ps.length ∨ 256 < L.is.length ∨ 65536 < (formsOf L.toks).length
    · rw [if_pos h2]
      constructor
      · intro h; omega
      · rintro ⟨-, h3, h4, h5⟩; omega
    · rw [if_neg h2]
      exact ⟨fun _ => ⟨h1, by omega, by omega, by omega⟩, fun _ => rfl⟩
  · rw [if_pos h1]
    exact ⟨fun h => by omega, fun h => absurd h.1 h1⟩
theorem flat_flatten : ∀ L : List (List UInt8), flat L = L.flatten
  | [] => rfl
  | p :: l => by simp [flat, flat_flatten l]
theorem tok_le {x : LTok} : ∀ {T : List LTok}, x ∈ T → (tokForm x).length ≤ (formsOf T).length
  | y :: T, h => by
    have e : (formsOf (y :: T)).length = (tokForm y).length + (formsOf T).length := by simp [formsOf]
    rcases List.mem_cons.1 h with rfl | h
    · omega
    · have := tok_le h; omega
theorem text_le {s : ByteArray} {T : List LTok} (h : .t s ∈ T) : s.size ≤ (formsOf T).length := by
  have h1 := tok_le h
  have h2 : (tokForm (.t s)).length = (numForm s.size).length + s.size := by show (textForm s.data.toList).length = _; rw [textForm_len, size_bytes]
  omega
theorem pr_mem {p : LPr} : ∀ {l : List LPr}, p ∈ l → (LTok.t p.k ∈ prToks l ∧ LTok.t p.v ∈ prToks l)
  | q :: l, h => by
    rcases List.mem_cons.1 h with rfl | h
    · simp [prToks]
    · have := pr_mem h
      exact ⟨by simp [prToks, this.1], by simp [prToks, this.2]⟩
theorem it_mem {p : LIt} : ∀ {l : List LIt}, p ∈ l → LTok.t p.e ∈ itToks l
  | q :: l, h => by
    rcases List.mem_cons.1 h with rfl | h
    · simp [itToks]
    · simp [itToks, it_mem h]
theorem let_small {L : Let} (h : (formsOf L.toks).length ≤ 65536) : (∀ s ∈ L.txts, s.size ≤ 1000000) ∧ (∀ p ∈ L.ps, p.k.size ≤ 1000000 ∧ p.v.size ≤ 1000000) ∧ (∀ p ∈ L.is, p.e.size ≤ 1000000) := by
  refine ⟨fun s hs => ?_, fun p hp => ⟨?_, ?_⟩, fun p hp => ?_⟩
  · exact Nat.le_trans (text_le (T := L.toks) (by unfold Let.toks; simp only [List.mem_append, List.mem_cons, List.mem_map]; exact .inl (.inl (.inr (.inr ⟨s, hs, rfl⟩))))) (by omega)
  · exact Nat.le_trans (text_le (T := L.toks) (by unfold Let.toks; simp only [List.mem_append, List.mem_cons]; exact .inl (.inr (.inr (pr_mem hp).1)))) (by omega)
  · exact Nat.le_trans (text_le (T := L.toks) (by unfold Let.toks; simp only [List.mem_append, List.mem_cons]; exact .inl (.inr (.inr (pr_mem hp).2)))) (by omega)
  · exact Nat.le_trans (text_le (T := L.toks) (by unfold Let.toks; simp only [List.mem_append, List.mem_cons]; exact .inr (.inr (it_mem hp)))) (by omega)
/-- what letter.Pack answers -/
def LetPackPost (L : Let) (w : World) (e : Ending) (w' : World) : Prop := e = .returned (.tuple #[.string ⟨L.packed.toArray⟩, .int .i64 L.err]) ∧ Below w.heap.size w w'
theorem StP.next {w0 : World} {g : Nat} {F : List (List UInt8)} {wx w' : World} (h : StP w0 g F wx) (hb : Below wx.heap.size wx w') : StP w0 g F w' := by
  obtain ⟨v, rs, h1, h2, h3, h4, h5, h6⟩ := h
  exact ⟨v, rs, h1.below hb h1.lt, h2.below hb, h3, h4.trans (hb.mono (by omega)), Nat.le_trans h5 hb.size, h6⟩
set_option maxRecDepth 100000 in
set_option maxHeartbeats 6400000 in
theorem letPack_any (L : Let) (Ap : Option Addr) (np cp : Nat) (Ai : Option Addr) (ni ci : Nat) (C : Nat) (w : World) (hP : HasLps w C Ap np L.ps) (hI : HasLis w C Ai ni L.is) (hC : C ≤ w.heap.size) (hn : np ≤ maxLen ∧ ni ≤ maxLen) (ht : ∀ s ∈ L.txts, s.size ≤ 140737488355328) (htp : ∀ p ∈ L.ps, p.k.size ≤ 140737488355328 ∧ p.v.size ≤ 140737488355328) (hti : ∀ p ∈ L.is, p.e.size ≤ 140737488355328) :
    Calls Try.prog 54 #[.agg #[.int .i64 L.kind, .int .i64 L.frm, .int .i64 L.to, .int .i64 L.a, .int .i64 L.b, .int .i64 L.c, .int .i64 L.d, .string L.s, .string L.t, .slice Ap np cp, .slice Ai ni ci, .int .i64 L.code, .bool L.yes, .string L.body]] w (LetPackPost L w) := by
  have HB0 : Hid (Below w.heap.size w (w.alloc (.cells #[.int .i64 L.kind, .int .i64 L.frm, .int .i64 L.to, .int .i64 L.a, .int .i64 L.b, .int .i64 L.c, .int .i64 L.d, .string L.s, .string L.t, .slice Ap np cp, .slice Ai ni ci, .int .i64 L.code, .bool L.yes, .string L.body] 69))) := Lib.hid (below_box _)
  have HLB : Hid (∀ wx, Below (w.alloc (.cells #[.int .i64 L.kind, .int .i64 L.frm, .int .i64 L.to, .int .i64 L.a, .int .i64 L.b, .int .i64 L.c, .int .i64 L.d, .string L.s, .string L.t, .slice Ap np cp, .slice Ai ni ci, .int .i64 L.code, .bool L.yes, .string L.body] 69)).heap.size (w.alloc (.cells #[.int .i64 L.kind, .int .i64 L.frm, .int .i64 L.to, .int .i64 L.a, .int .i64 L.b, .int .i64 L.c, .int .i64 L.d, .string L.s, .string L.t, .slice Ap np cp, .slice Ai ni ci, .int .i64 L.code, .bool L.yes, .string L.body] 69)) wx → Box wx w.heap.size 69 #[.int .i64 L.kind, .int .i64 L.frm, .int .i64 L.to, .int .i64 L.a, .int .i64 L.b, .int .i64 L.c, .int .i64 L.d, .string L.s, .string L.t, .slice Ap np cp, .slice Ai ni ci, .int .i64 L.code, .bool L.yes, .string L.body]) := Lib.hid fun wx hx => (let_box hx).1
  have HCk := Lib.hid (letCheck_any L Ap np cp Ai ni ci C (w.alloc (.cells #[.int .i64 L.kind, .int .i64 L.frm, .int .i64 L.to, .int .i64 L.a, .int .i64 L.b, .int .i64 L.c, .int .i64 L.d, .string L.s, .string L.t, .slice Ap np cp, .slice Ai ni ci, .int .i64 L.code, .bool L.yes, .string L.body] 69)) (hP.belowOf (below_box _) hC) (hI.belowOf (below_box _) hC) (by simp; omega) hn ht htp hti)
  have HPI : Hid (∀ wx, Below w.heap.size w wx → HasLps wx C Ap np L.ps ∧ HasLis wx C Ai ni L.is ∧ C ≤ wx.heap.size) := Lib.hid fun wx hx => ⟨hP.belowOf hx hC, hI.belowOf hx hC, Nat.le_trans hC hx.size⟩
  have Hlp := Lib.hid hP.1
  have Hli := Lib.hid hI.1
  unfold LetErrPost at HCk
  unfold LetPackPost
  obtain ⟨z, hz⟩ : ∃ z, L.err = z := ⟨_, rfl⟩
  obtain ⟨Z, hZ⟩ : ∃ Z, L.packed = Z := ⟨_, rfl⟩
  rw [hz] at HCk ⊢
  rw [hZ]
  have HZ := Lib.hid hZ
  have Hz := Lib.hid hz
  clear hP hI ht htp hti hz hZ hn
  go_enter Try.func54, Try.ntmps54
  go_wp2_with fail
  refine HCk.out.mono ?_
  rintro e w1 ⟨rfl, b1⟩
  have Hb1 := Lib.hid b1
  have HE1 := Lib.hid (HB0.out.trans (b1.mono HB0.out.size))
  clear b1 HCk
  by_cases h0 : z = 0
  · subst h0
    have HK := Lib.hid (err_zero.1 Hz.out)
    have HSm := Lib.hid (let_small HK.out.2.2.2)
    obtain rfl : formsOf L.toks = Z := by rw [← HZ.out]; exact (if_pos Hz.out).symm
    have hbw : Below w1.heap.size w1 (w1.alloc (.cells #[.slice none 0 0] 132)) := below_box _
    have hlc := let_cells (HLB.out _ (Hb1.out.trans (hbw.mono Hb1.out.size)))
    obtain ⟨⟨d0, d1, d2, d3, d4, d5, d6⟩, ⟨d7, d8⟩, ⟨d9, d10⟩, ⟨d11, d12, d13⟩⟩ := hlc
    have HS0 : Hid (StP w1 w1.heap.size [] (w1.alloc (.cells #[.slice none 0 0] 132))) := Lib.hid
      ⟨.slice none 0 0, [], Box.made _ _ _, ⟨World.ownsRow_nil _ _ _ _, fun r hr => by simp at hr⟩, rfl, hbw, by simp, by simp⟩
    have HT := Lib.hid (tellP_any (fun T wx => StP w1 w1.heap.size (T.map tokForm) wx) badP (by unfold badP; decide) (by unfold badP; decide) (by unfold badP; decide) w1.heap.size L Ap np cp Ai ni ci C 1000000 (w1.alloc (.cells #[.slice none 0 0] 132))
      (fun T wx h => by
        obtain ⟨v, rs, h1, h2, h3, h4, h5, h6⟩ := h
        exact HPI.out wx (HE1.out.trans (h4.mono HE1.out.size)))
      (fun T wx w' h hb => StP.next h hb)
      (fun T n wx h hn hT => by
        have h9 := packNum_any w1 w1.heap.size (T.map tokForm) n wx h hn (by rw [List.length_map]; omega)
        have e1 : T.map tokForm ++ [numForm n.toNat] = (T ++ [LTok.n n]).map tokForm := by
          rw [List.map_append]
          show _ = T.map tokForm ++ [if n < 0 then [] else numForm n.toNat]
          rw [if_neg (by have := hn.1; omega)]
        rw [e1] at h9
        exact h9)
      (fun T s wx h hs hT => by
        have h9 := packText_any w1 w1.heap.size (T.map tokForm) s wx h hs (by rw [List.length_map]; omega)
        have e1 : T.map tokForm ++ [textForm s.data.toList] = (T ++ [LTok.t s]).map tokForm := by
          rw [List.map_append]
          rfl
        rw [e1] at h9
        exact h9)
      HS0.out HK.out.1 (by have := HK.out.2.1; have := Hlp.out; omega) (by have := HK.out.2.2.1; have := Hli.out; omega) HSm.out.1 HSm.out.2.1 HSm.out.2.2)
    clear hbw HS0
    go_wp2_with fail
    refine HT.out.mono ?_
    rintro e w3 ⟨rfl, ⟨v, rs, h1, h2, h3, h4, h5, h6⟩, -⟩
    obtain ⟨Aq, cq, rfl, -, -, hph⟩ := own_slice h2.own
    have HW3 := Lib.hid (HE1.out.trans (h4.mono HE1.out.size))
    have c3 : w3.cell? ⟨w1.heap.size, 0, none⟩ = some (.slice Aq rs.length cq) := h1.cell 0
    have Hparts : Hid (Parts w3 w3.heap.size Aq rs.length (pvCells rs) (rs.map (·.2))) := Lib.hid ⟨hph, by simp [pvCells], fun j hj => by
      rw [List.length_map] at hj
      obtain ⟨A', c', e', -, -, hh⟩ := own_slice (h2.rows rs[j] (List.getElem_mem hj))
      exact ⟨A', rs[j].2.length, c', by simp [pvCells, hj, e'], by simpa [hj] using hh⟩⟩
    have Hflat : Hid (flat (rs.map (·.2)) = formsOf L.toks) := Lib.hid (by rw [h3]; unfold formsOf; exact flat_flatten _)
    have Hj := Lib.hid (join_any Aq rs.length cq w3.heap.size (pvCells rs) (rs.map (·.2)) w3 Hparts.out (Nat.le_refl _) (by rw [Hflat.out]; have := HK.out.2.2.2; omega) (by rw [← h3, List.length_map] at h6; omega))
    rw [Hflat.out] at Hj
    obtain ⟨NZ, hNZ⟩ : ∃ NZ, (formsOf L.toks).length = NZ := ⟨_, rfl⟩
    rw [hNZ] at Hj
    clear h1 h2 h3 h4 h5 h6 hph hNZ d0 d1 d2 d3 d4 d5 d6 d7 d8 d9 d10 d11 d12 d13
    go_wp2_with fail
    refine Hj.out.mono ?_
    rintro e w6 ⟨v6, rfl, o6, b6⟩
    obtain ⟨A6, c6, rfl, -, -, hh6⟩ := own_slice o6
    have hcv : (convert 76 9 (.slice A6 NZ c6)).run Try.prog w6 = .ok (.string ⟨(formsOf L.toks).toArray⟩) w6 := string_run (w := w6) (l := formsOf L.toks) hh6 c6
    have HE : Hid (Below w.heap.size w w6) := Lib.hid (HW3.out.trans (b6.mono HW3.out.size))
    clear o6 b6 hh6
    go_wp2
    go_ret2
    exact ⟨rfl, HE.out⟩
  · have h0' : (z == 0) = false := by simpa using h0
    have h0'' : (z != 0) = true := by simpa using h0
    obtain rfl : [] = Z := by rw [← HZ.out]; exact (if_neg (by rw [Hz.out]; exact h0)).symm
    clear h0
    go_wp2
    go_ret2
    exact ⟨rfl, HE1.out⟩
end Go.Proofs.Ytaljojjpgkmiiaa

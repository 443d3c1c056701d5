/- The document's Pack of a letter: its small functions. No condition. -/
import Derived.Test.YtabcoidjbigdbaaLetG
import Derived.Test.YtabcoidjbigdbaaLetO
import Derived.Test.YtabcoidjbigdbaaBsA
import Derived.Test.YtabcoidjbigdbaaPakJ
import Derived.Test.YtabcoidjbigdbaaLetX
namespace Go.Proofs.Ytabcoidjbigdbaa
open Go.RowKit

theorem refNumber_any (n : Int) (w : World) : Calls Try.prog 42 #[.int .i64 n] w fun e w' => e = .returned (.bool (decide (okNum n))) ∧ w' = w := by
  by_cases h1 : n < 0
  · have e : decide (okNum n) = false := decide_eq_false (fun h => by have := h.1; omega)
    rw [e]
    go_enter Try.func42, Try.ntmps42
    go_wp2
    go_ret
    exact ⟨rfl, rfl⟩
  · by_cases h2 : 1099511627776 < n
    · have e : decide (okNum n) = false := decide_eq_false (fun h => by have := h.2; omega)
      rw [e]
      go_enter Try.func42, Try.ntmps42
      go_wp2
      go_ret
      exact ⟨by simp; omega, rfl⟩
    · have e : decide (okNum n) = true := decide_eq_true ⟨by omega, by omega⟩
      rw [e]
      have h1' : 0 ≤ n := by omega
      have h2' : n ≤ 1099511627776 := by omega
      clear h1 h2
      go_enter Try.func42, Try.ntmps42
      go_wp2
      go_ret
      exact ⟨rfl, rfl⟩
theorem own_lit1 (w : World) (x : UInt8) : (w.alloc (.cells #[.int .u8 (x.toNat : Int)] 5)).ownsRow w.heap.size 5 1 (.slice (some ⟨w.heap.size, 0, none⟩) 1 1) 1 (byteCells [x]) :=
  ⟨rfl, .inr ⟨w.heap.size, 1, #[.int .u8 (x.toNat : Int)], rfl, Nat.le_refl _, heap_alloc_new w _, Nat.le_refl _, by simp [maxLen], rfl, rfl⟩⟩
theorem one_nat (b : Bool) : numForm (one b).toNat = [if b then 1 else 0] := by
  cases b
  · exact numForm_lo (by decide)
  · exact numForm_lo (by decide)
theorem refFlag_any (b : Bool) (w : World) : Calls Try.prog 44 #[.bool b] w (Gives w.heap.size (numForm (one b).toNat).length (byteCells (numForm (one b).toNat)) w) := by
  rw [one_nat b]
  cases b with
  | false =>
    have HH := Lib.hid (own_lit1 w 0)
    go_enter Try.func44, Try.ntmps44
    go_wp2
    go_ret
    exact ⟨_, rfl, HH.out, below_box _⟩
  | true =>
    have HH := Lib.hid (own_lit1 w 1)
    go_enter Try.func44, Try.ntmps44
    go_wp2
    go_ret
    exact ⟨_, rfl, HH.out, below_box _⟩
theorem OwnBs.tok {w : World} {B : Nat} {v : Value} {T : List LTok} {x : LTok} (h : OwnBs w B v (formsOf T ++ tokForm x)) : OwnBs w B v (formsOf (T ++ [x])) := by
  rw [formsOf_app, formsOf_one]
  exact h
/-- what is there so far is no longer than the whole -/
theorem forms_le {T R A : List LTok} (h : T ++ R = A) : (formsOf T).length ≤ (formsOf A).length := by
  rw [← h, formsOf_app, List.length_append]
  omega
theorem err_big {L : Let} (h : L.inside) (h2 : 65536 < (formsOf L.toks).length) : L.err = 4 := by
  unfold Let.err
  rw [if_neg (by simpa using h), if_pos (.inr (.inr h2))]
theorem tok_num {n : Int} (h : okNum n) : tokForm (.n n) = numForm n.toNat := by
  show (if n < 0 then [] else numForm n.toNat) = _
  rw [if_neg (by have := h.1; omega)]
theorem txt_len (s : ByteArray) (h : s.size ≤ 65536) : (textForm s.data.toList).length ≤ 65545 := by
  have h8 := numForm_len9 (k := s.size) (by omega)
  rw [textForm_len, size_bytes]
  omega
theorem len_tok {T T' : List LTok} {x : LTok} {F : List UInt8} {M : Nat} (hT : T ++ [x] = T') (hx : tokForm x = F) (hm : F.length ≤ M) : (formsOf T').length ≤ (formsOf T).length + M := by
  subst hT hx
  rw [formsOf_app, formsOf_one, List.length_append]
  omega
theorem len4 (j : Nat) : 73 + 65545 * j + 65545 ≤ 73 + 65545 * (j + 1) := by omega
theorem push_tok {w' : World} {B : Nat} {v : Value} {T T' : List LTok} {x : LTok} {F : List UInt8} {N M m : Nat} (o : w'.ownsRow B 5 1 v (m + F.length) (byteCells (formsOf T) ++ byteCells F)) (hmT : (formsOf T).length = m) (hx : tokForm x = F) (hT : T ++ [x] = T') (hl : (formsOf T).length ≤ N) (hm : F.length ≤ M) :
    OwnBs w' B v (formsOf T') ∧ (formsOf T').length ≤ N + M := by
  subst hT hx hmT
  refine ⟨OwnBs.tok (OwnBs.app o rfl), ?_⟩
  rw [formsOf_app, formsOf_one, List.length_append]
  omega
theorem lps_cells {w : World} {B n i : Nat} {a : Addr} {l : List LPr} {p : LPr} (h : HasLps w B (some a) n l) (hi : i < n) (hp : l[i]? = some p) : w.cell? (a.add (i * 2)) = some (.string p.k) ∧ w.cell? ⟨(a.add (i * 2)).block, (a.add (i * 2)).off + 1, none⟩ = some (.string p.v) := by
  obtain ⟨a', v, e, -, hv, c0, c1⟩ := h.at_ hi
  injection e with e
  subst e
  rw [hp] at hv
  injection hv with hv
  subst hv
  exact ⟨c0, c1⟩
theorem lis_cells {w : World} {B n i : Nat} {a : Addr} {l : List LIt} {p : LIt} (h : HasLis w B (some a) n l) (hi : i < n) (hp : l[i]? = some p) : w.cell? (a.add (i * 3)) = some (.string p.e) ∧ w.cell? ⟨(a.add (i * 3)).block, (a.add (i * 3)).off + 1, none⟩ = some (.int .i64 p.v) ∧ w.cell? ⟨(a.add (i * 3)).block, (a.add (i * 3)).off + 2, none⟩ = some (.bool p.g) := by
  obtain ⟨a', v, e, -, hv, c0, c1, c2⟩ := h.at_ hi
  injection e with e
  subst e
  rw [hp] at hv
  injection hv with hv
  subst hv
  exact ⟨c0, c1, c2⟩
end Go.Proofs.Ytabcoidjbigdbaa

/- The document's SameIntents and numbers. Condition: rows in memory. -/
import Derived.Test.YtabcoidjbigdbaaLetN
import Derived.Test.YtabcoidjbigdbaaWords
import Derived.Laws.StructEq
import Derived.BigQuiet
namespace Go.Proofs.Ytabcoidjbigdbaa
open Go.RowKit
open Go.Lib (strCells)

theorem text_eqL (a b : ByteArray) : (a.toList == b.toList) = decide (a = b) := by
  rw [ByteArray.toList_eq, ByteArray.toList_eq]
  by_cases h : a = b
  · subst h; simp
  · rw [decide_eq_false h]
    exact beq_eq_false_iff_ne.2 fun e => h (by cases a; cases b; simp at e; rw [e])
instance : DecidableEq LPr := fun a b => decidable_of_iff (a.k = b.k ∧ a.v = b.v) ⟨fun ⟨h1, h2⟩ => by cases a; cases b; simp_all, fun h => by subst h; exact ⟨rfl, rfl⟩⟩
instance : DecidableEq LIt := fun a b => decidable_of_iff (a.e = b.e ∧ a.v = b.v ∧ a.g = b.g) ⟨fun ⟨h1, h2, h3⟩ => by cases a; cases b; simp_all, fun h => by subst h; exact ⟨rfl, rfl, rfl⟩⟩
set_option maxRecDepth 100000 in
set_option maxHeartbeats 1600000 in
theorem sameIts_any (A A' : Option Addr) (n n' c c' C C' : Nat) (l m : List LIt) (w : World) (h : HasLis w C A n l) (h' : HasLis w C' A' n' m) (hn : n ≤ maxLen) (hn' : n' ≤ maxLen) :
    Calls Try.prog 50 #[.slice A n c, .slice A' n' c'] w fun e w' => e = .returned (.bool (decide (l = m))) ∧ Below w.heap.size w w' := by
  unfold maxLen at hn hn'
  have H := Lib.hid h
  have H' := Lib.hid h'
  have Hl := Lib.hid h.1
  have Hm := Lib.hid h'.1
  clear h h'
  by_cases hnn : n = n'
  · subst hnn
    go_enter Try.func50, Try.ntmps50
    go_wp2
    go_loopw [5] (fun i wr => ∃ k : Nat, k ≤ n ∧ i = .int .i64 (k : Int) ∧ Hid (l.take k = m.take k) ∧ ∃ q, wr = w.drewN q) (fun i _ => n - (intOf i).toNat)
    case atStart => exact ⟨0, by omega, rfl, Lib.hid rfl, 0, rfl⟩
    case round =>
      obtain ⟨k, hk, rfl, Ht, q, rfl⟩ := hrel
      by_cases hlt : k < n
      · obtain ⟨a, v, rfl, _, hv, c0, c1, c2⟩ := H.out.at_ hlt
        obtain ⟨b, u, rfl, _, hu, d0, d1, d2⟩ := H'.out.at_ hlt
        have hk0 : (0 : Int) ≤ (k : Int) := by omega
        have hk1 : (k : Int) < (n : Int) := by omega
        have Hv := Lib.hid hv
        have Hu := Lib.hid hu
        clear hv hu
        by_cases e : v = u
        · subst e
          go_wp2
          go_quiet (fail)
          go_wp2
          go_roundw
          case rel => exact ⟨k + 1, by omega, by go_num, Lib.hid (by rw [List.take_add_one, List.take_add_one, Ht.out, Hv.out, Hu.out]), _, rfl⟩
          case measure => simp [intOf]; omega
        · have E : Hid (decide (l = m) = false) := Lib.hid (decide_eq_false fun e' => by
            rw [e', Hu.out] at Hv
            exact e (Option.some.inj Hv.out).symm)
          obtain ⟨vs, vt, vg⟩ := v
          obtain ⟨us, ut, ug⟩ := u
          have hx : (vs ≠ us) ∨ (vs = us ∧ vt ≠ ut) ∨ (vs = us ∧ vt = ut ∧ vg ≠ ug) := by
            by_cases h1 : vs = us
            · by_cases h2 : vt = ut
              · exact .inr (.inr ⟨h1, h2, fun h3 => e (by rw [h1, h2, h3])⟩)
              · exact .inr (.inl ⟨h1, h2⟩)
            · exact .inl h1
          simp only at c0 c1 c2 d0 d1 d2
          clear e
          rcases hx with hx | ⟨rfl, hx⟩ | ⟨rfl, rfl, hx⟩
          · have hb : (vs.toList == us.toList) = false := by rw [text_eqL]; exact decide_eq_false hx
            clear hx
            go_wp2
            go_quiet (fail)
            go_wp2
            go_ret
            exact ⟨ret_bool (by rw [E.out]), below_drL (below_drL (Below.refl _ _) _) _⟩
          · have hb : (vt == ut) = false := by simpa using hx
            clear hx
            go_wp2
            go_quiet (fail)
            go_wp2
            go_ret
            exact ⟨ret_bool (by rw [E.out]), below_drL (below_drL (Below.refl _ _) _) _⟩
          · have hb : (vg == ug) = false := by simpa using hx
            clear hx
            go_wp2
            go_quiet (fail)
            go_wp2
            go_ret
            exact ⟨ret_bool (by rw [E.out]), below_drL (below_drL (Below.refl _ _) _) _⟩
      · have E : Hid (decide (l = m) = true) := Lib.hid (decide_eq_true (by
          have h1 := Ht.out
          rwa [List.take_of_length_le (by have := Hl.out; omega), List.take_of_length_le (by have := Hm.out; omega)] at h1))
        go_wp2
        go_ret
        exact ⟨ret_bool (by rw [E.out]), below_drL (Below.refl _ _) _⟩
  · have E : Hid (decide (l = m) = false) := Lib.hid (decide_eq_false fun e => hnn (by rw [← Hl.out, ← Hm.out, e]))
    have hb : ((n : Int) != (n' : Int)) = true := by simp; omega
    clear hnn
    go_enter Try.func50, Try.ntmps50
    go_wp2
    go_ret
    exact ⟨ret_bool (by rw [E.out]), Below.refl _ _⟩
/-- the numbers that the document looks at -/
def Let.nums7 (L : Let) : List Int := [L.frm, L.to, L.a, L.b, L.c, L.d, L.code]
def NumRow (w : World) (A : Option Addr) (l : List Int) : Prop := Has w w.heap.size A l.length (l.map (Value.int .i64))
theorem NumRow.at_ {w : World} {A : Option Addr} {l : List Int} (h : NumRow w A l) {k : Nat} (hk : k < l.length) : ∃ a x, A = some a ∧ l[k]? = some x ∧ w.cell? (a.add k) = some (.int .i64 x) := by
  obtain ⟨a, e, -, hc⟩ := h.all (by omega)
  exact ⟨a, l[k], e, List.getElem?_eq_getElem hk, hc _ _ (by simp [List.getElem?_map, List.getElem?_eq_getElem hk])⟩
theorem NumRow.below {w w' : World} {A : Option Addr} {l : List Int} (h : NumRow w A l) (hb : Below w.heap.size w w') : NumRow w' A l := (Has.below h hb).more hb.size
set_option maxRecDepth 100000 in
theorem refNums_any (L : Let) (Ap : Option Addr) (np cp : Nat) (Ai : Option Addr) (ni ci : Nat) (w : World) : Calls Try.prog 41 #[.agg #[.int .i64 L.kind, .int .i64 L.frm, .int .i64 L.to, .int .i64 L.a, .int .i64 L.b, .int .i64 L.c, .int .i64 L.d, .string L.s, .string L.t, .slice Ap np cp, .slice Ai ni ci, .int .i64 L.code, .bool L.yes, .string L.body]] w fun e w' => ∃ A, e = .returned (.slice A 7 7) ∧ NumRow w' A L.nums7 ∧ Below w.heap.size w w' := by
  go_enter Try.func41, Try.ntmps41
  go_wp2
  go_ret
  refine ⟨_, rfl, ?_, ((below_box _).alloc (by simp) _)⟩
  have h := Has.lit (w.alloc (.cells #[.int .i64 L.kind, .int .i64 L.frm, .int .i64 L.to, .int .i64 L.a, .int .i64 L.b, .int .i64 L.c, .int .i64 L.d, .string L.s, .string L.t, .slice Ap np cp, .slice Ai ni ci, .int .i64 L.code, .bool L.yes, .string L.body] 26)) #[.int .i64 L.frm, .int .i64 L.to, .int .i64 L.a, .int .i64 L.b, .int .i64 L.c, .int .i64 L.d, .int .i64 L.code] 3
  unfold NumRow
  simpa [Let.nums7] using h
end Go.Proofs.Ytabcoidjbigdbaa

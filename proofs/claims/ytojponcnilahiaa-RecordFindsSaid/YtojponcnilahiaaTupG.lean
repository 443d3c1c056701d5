/- The document's put and Key give what the plain text (SpecTuple) gives. Condition: rows in memory. -/
import Derived.Test.YtojponcnilahiaaTupF
namespace Go.Proofs.Ytojponcnilahiaa
open Go.RowKit
open Go.Lib (strCells compareBytes)

set_option maxHeartbeats 400000 in
theorem putInt_any (n : Int) (s : ByteArray) (w : World) (hn : InI64 n) :
    Calls Try.prog 46 #[.agg #[.int .i64 1, .int .i64 n, .string s]] w (Gives w.heap.size 9 (byteCells (2 :: be 8 (n + 9223372036854775808).toNat)) w) := by
  have Hu := Lib.hid (u64_of hn)
  clear hn
  generalize (n + 9223372036854775808).toNat = U at Hu ⊢
  go_enter Try.func46, Try.ntmps46
  go_wp2
  go_loopw [3, 5] (fun vr i wr => ∃ k : Nat, k ≤ 8 ∧ i = .int .i64 (k : Int) ∧ wr.ownsRow w.heap.size 5 1 vr (1 + k) (byteCells (2 :: (be 8 U).take k)) ∧ Below w.heap.size w wr) (fun _ i _ => 8 - (intOf i).toNat)
  case atStart =>
    refine ⟨0, by omega, rfl, ?_, (below_box _).alloc (by simp) _⟩
    have := World.ownsRow_lit (base := w.heap.size) (e := 5) (size := 1) (w.alloc (.cells #[.int .i64 1, .int .i64 n, .string s] 49)) #[.int .u8 2] 1 (by simp) (by simp [maxLen]) rfl
    simpa [byteCells] using this
  case round =>
    obtain ⟨k, hk, rfl, hown', hb⟩ := hrel
    have hBr := hb.size
    have Hb := Lib.hid hb
    clear hb
    by_cases hlt : k < 8
    · go_wp2_with (at_builtin; refine wpList_append_has rfl (.tmp 21) (.tmp 29) _ rfl 5 u8_elem Try.underlying62 rfl (hown'.alloc _) rfl (Has.one wr _ _ _ rfl) (one_int _ _) (by simp only [maxLen]; omega) (by omega) (le_alloc hBr _) ?_; intro v' w1 hown1 hg1 hz1; have Hb1 : Hid (Below w.heap.size w w1) := Lib.hid (below_own (Hb.out.alloc hBr _) (hown'.alloc _) hg1 (le_alloc hBr _)); clear hg1 hz1)
      go_roundw
      case rel =>
        refine ⟨k + 1, by omega, by go_num, ?_, Hb1.out⟩
        rw [Hu.out, show 56 - 8 * k = 8 * (7 - k) from by omega, byteOf, ← byte_cell _ (Nat.mod_lt _ (by omega)), ← byteCells_app] at hown1
        rw [be_take k U 8 hlt]
        exact hown1
      case measure => simp [intOf]; omega
    · obtain rfl : k = 8 := by omega
      go_wp2
      go_ret
      exact ret_own rfl hown' rfl (by rw [List.take_of_length_le (by rw [be_len]; omega)]) Hb.out

theorem byte_at (s : ByteArray) (k : Nat) (h : k < s.size) : s[k] = s.data.toList[k]?.getD 0 := by
  have h' : k < s.data.toList.length := by rw [← Lib.size_eq]; exact h
  simp [List.getElem?_eq_getElem h']
  rfl

set_option maxHeartbeats 800000 in
theorem putText_any (n : Int) (s : ByteArray) (w : World) (hs : s.size ≤ 32) :
    Calls Try.prog 46 #[.agg #[.int .i64 2, .int .i64 n, .string s]] w (Gives w.heap.size (1 + ((esc s.data.toList).length + 2)) (byteCells (3 :: (esc s.data.toList ++ [0, 0]))) w) := by
  have Hsl := Lib.hid (Lib.size_eq s)
  go_enter Try.func46, Try.ntmps46
  go_wp2
  go_loopw [6, 7] (fun vr i wr => ∃ k : Nat, k ≤ s.size ∧ i = .int .i64 (k : Int) ∧ wr.ownsRow (w.heap.size + 1) 5 1 vr (1 + (esc (s.data.toList.take k)).length) (byteCells (3 :: esc (s.data.toList.take k))) ∧ Below (w.heap.size + 1) (w.alloc (.cells #[.int .i64 2, .int .i64 n, .string s] 49)) wr) (fun _ i _ => s.size - (intOf i).toNat)
  case atStart =>
    refine ⟨0, by omega, rfl, ?_, (Below.refl _ _).alloc (by simp) _⟩
    have := World.ownsRow_lit (base := w.heap.size + 1) (e := 5) (size := 1) (w.alloc (.cells #[.int .i64 2, .int .i64 n, .string s] 49)) #[.int .u8 3] 1 (by simp) (by simp [maxLen]) rfl
    simpa [byteCells, esc] using this
  case round =>
    obtain ⟨k, hk, rfl, hown', hb⟩ := hrel
    have hBr : w.heap.size + 1 ≤ wr.heap.size := by have := hb.size; simpa using this
    have hc : wr.cell? ⟨w.heap.size, 2, none⟩ = some (.string s) := by
      rw [hb.cell (p := ⟨w.heap.size, 2, none⟩) (by simp)]
      exact (Box.made w _ _).cell 2
    have hel : (esc (s.data.toList.take k)).length ≤ 64 := by have := esc_take_len s.data.toList k; have := Hsl.out; omega
    have Hb := Lib.hid hb
    clear hb
    by_cases hlt : k < s.size
    · have He := Lib.hid (esc_take (l := s.data.toList) (k := k) (by have := Hsl.out; omega))
      obtain ⟨x, hx⟩ : ∃ x, s[k] = x := ⟨_, rfl⟩
      rw [← byte_at s k hlt, hx] at He
      have h256 := x.toNat_lt
      have hcell : ∀ wx : World, Below (w.heap.size + 1) wr wx → wx.cell? ⟨w.heap.size, 2, none⟩ = some (.string s) := fun wx h => (h.cell (p := ⟨w.heap.size, 2, none⟩) (by simp)).trans hc
      have Hcell := Lib.hid hcell
      clear hcell
      by_cases hx0 : x = 0
      · subst hx0
        have E1 : Hid (esc1 0 = [0] ++ [255]) := Lib.hid rfl
        go_wp2_with (first
          | (at_builtin; refine wpList_append_has rfl (.tmp 42) (.tmp 47) _ rfl 5 u8_elem Try.underlying62 rfl (hown'.alloc _) rfl (Has.one wr _ _ _ rfl) (one_int _ _) (by simp only [maxLen]; omega) (by omega) (le_alloc hBr _) ?_; intro v1 w1 hown1 hg1 hz1; have Hk1 : Hid (Below (w.heap.size + 1) wr w1) := Lib.hid (below_own ((Below.refl _ _).alloc hBr _) (hown'.alloc _) hg1 (le_alloc hBr _)); have hB1 : w.heap.size + 1 ≤ w1.heap.size := Nat.le_trans hBr Hk1.out.size; have hc1 := Hcell.out w1 Hk1.out; clear hg1 hz1)
          | (at_builtin; refine wpList_append_has rfl (.tmp 54) (.tmp 55) _ rfl 5 u8_elem Try.underlying62 rfl (hown1.alloc _) rfl (Has.one w1 _ _ _ rfl) (one_int _ _) (by simp only [maxLen]; omega) (by omega) (le_alloc hB1 _) ?_; intro v2 w2 hown2 hg2 hz2; have Hk2 : Hid (Below (w.heap.size + 1) wr w2) := Lib.hid (below_own (Hk1.out.alloc hB1 _) (hown1.alloc _) hg2 (le_alloc hB1 _)); clear hg2 hz2))
        go_roundw
        case rel =>
          refine ⟨k + 1, by omega, by go_num, ?_, Hb.out.trans Hk2.out⟩
          rw [He.out, E1.out, List.length_append, ← List.cons_append, ← List.append_assoc, byteCells_app, byteCells_app]
          exact hown2
        case measure => simp [intOf]; omega
      · have hx1 : ((x.toNat : Int) == 0) = false := by
          have : x.toNat ≠ 0 := fun e => hx0 (UInt8.toNat_inj.1 (by rw [e]; rfl))
          simp
          omega
        have E1 : Hid (esc1 x = [x]) := Lib.hid (by unfold esc1; rw [if_neg hx0])
        clear hx0
        go_wp2_with
          (at_builtin; refine wpList_append_has rfl (.tmp 42) (.tmp 47) _ rfl 5 u8_elem Try.underlying62 rfl (hown'.alloc _) rfl (Has.one wr _ _ _ rfl) (one_int _ _) (by simp only [maxLen]; omega) (by omega) (le_alloc hBr _) ?_; intro v1 w1 hown1 hg1 hz1; have Hk1 : Hid (Below (w.heap.size + 1) wr w1) := Lib.hid (below_own ((Below.refl _ _).alloc hBr _) (hown'.alloc _) hg1 (le_alloc hBr _)); have hc1 := Hcell.out w1 Hk1.out; clear hg1 hz1)
        go_roundw
        case rel =>
          refine ⟨k + 1, by omega, by go_num, ?_, Hb.out.trans Hk1.out⟩
          rw [He.out, E1.out, List.length_append, ← List.cons_append, byteCells_app]
          exact hown1
        case measure => simp [intOf]; omega
    · obtain rfl : k = s.size := by omega
      have E : Hid (s.data.toList.take s.size = s.data.toList) := Lib.hid (List.take_of_length_le (by have := Hsl.out; omega))
      go_wp2_with (at_builtin; refine wpList_append_has rfl (.tmp 57) (.tmp 58) _ rfl 5 u8_elem Try.underlying62 rfl (hown'.alloc _) rfl (two_zero wr) (byteCells_one _) (by simp only [maxLen]; omega) (by omega) (le_alloc hBr _) ?_; intro v1 w1 hown1 hg1 hz1; have Hk1 : Hid (Below (w.heap.size + 1) wr w1) := Lib.hid (below_own ((Below.refl _ _).alloc hBr _) (hown'.alloc _) hg1 (le_alloc hBr _)); clear hg1 hz1)
      go_ret
      refine ret_own rfl (own_base hown1 (by omega)) ?_ ?_ ((below_box _).trans ((Hb.out.trans Hk1.out).mono (by omega)))
      · rw [E.out]; omega
      · rw [E.out, ← List.cons_append, byteCells_app]

theorem put_any (u : TVal) (w : World) (hg : goodV u = true) (hn : InI64 u.n) :
    Calls Try.prog 46 #[vagg u] w (Gives w.heap.size (keyV u).length (byteCells (keyV u)) w) := by
  obtain ⟨k, n, s⟩ := u
  have hcs : k = 0 ∨ k = 1 ∨ (k = 2 ∧ s.size ≤ 32) := by
    rw [goodV_iff] at hg
    simp only [TVal.t] at hg
    rw [Lib.size_eq]
    omega
  clear hg
  unfold vagg
  simp only
  rcases hcs with rfl | rfl | ⟨rfl, hs⟩
  · have E : Hid (keyV ⟨0, n, s⟩ = [1]) := Lib.hid (by simp [keyV])
    have Ho : Hid ((((w.alloc (.cells #[.int .i64 0, .int .i64 n, .string s] 49)).alloc (.cells #[.int .u8 1] 5))).ownsRow w.heap.size 5 1 (.slice (some ⟨w.heap.size + 1, 0, none⟩) 1 1) 1 (byteCells [1])) := Lib.hid (by
      have := World.ownsRow_lit (base := w.heap.size) (e := 5) (size := 1) (w.alloc (.cells #[.int .i64 0, .int .i64 n, .string s] 49)) #[.int .u8 1] 1 (by simp) (by simp [maxLen]) rfl
      simpa [byteCells] using this)
    go_enter Try.func46, Try.ntmps46
    go_wp2
    go_ret
    exact ret_own rfl Ho.out (by rw [E.out]; rfl) (by rw [E.out]) ((below_box _).alloc (by simp) _)
  · have E : keyV ⟨1, n, s⟩ = 2 :: be 8 (n + 9223372036854775808).toNat := by simp [keyV]
    rw [E, List.length_cons, be_len]
    exact putInt_any n s w hn
  · have E : keyV ⟨2, n, s⟩ = 3 :: (esc s.data.toList ++ [0, 0]) := by simp [keyV, TVal.t]
    have := putText_any n s w hs
    rw [E]
    rw [show (3 :: (esc s.data.toList ++ [0, 0])).length = 1 + ((esc s.data.toList).length + 2) from by simp only [List.length_cons, List.length_append, List.length_nil]; omega]
    exact this

end Go.Proofs.Ytojponcnilahiaa

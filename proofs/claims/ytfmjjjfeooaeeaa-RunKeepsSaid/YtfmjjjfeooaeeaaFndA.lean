/- Slice of the program and of the document give what the plain text (SpecRun) gives. Condition: few changes with short texts, in memory. -/
import Derived.Test.YtfmjjjfeooaeeaaRawB
namespace Go.Proofs.Ytfmjjjfeooaeeaa
open Go.RowKit
open Go.Lib (strCells compareBytes)

theorem slice_succ {lo hi : List UInt8} {l : List Chg} {k : Nat} {c : Chg} (h : l[k]? = some c) : sliceL lo hi (l.take (k + 1)) = sliceL lo hi (l.take k) ++ (if inR lo hi c then [c] else []) := by
  rw [take_snocC h]
  unfold sliceL
  rw [List.filter_append]
  by_cases e : inR lo hi c = true <;> simp [e]
theorem slice_len (lo hi : List UInt8) (l : List Chg) : (sliceL lo hi l).length ≤ l.length := List.length_filter_le _ _
theorem empty_iff {s : ByteArray} : s.data.toList.isEmpty = true ↔ s = ⟨#[]⟩ := by
  constructor
  · intro h
    refine bytes_ext ?_
    simpa using h
  · rintro rfl
    rfl
open Classical in
/-- the changes of a run that a range has; of what isn't a run none -/
noncomputable def sliceT (lo hi : List UInt8) (l : List Chg) : List Chg := if Run l then sliceL lo hi l else []
theorem sliceT_run {lo hi : List UInt8} {l : List Chg} (h : Run l) : sliceT lo hi l = sliceL lo hi l := by unfold sliceT; rw [if_pos h]
theorem sliceT_no {lo hi : List UInt8} {l : List Chg} (h : ¬ Run l) : sliceT lo hi l = [] := by unfold sliceT; rw [if_neg h]
/-- how a key stands to a range, as the walk asks it -/
theorem inR_cases (lo hi : ByteArray) (c : Chg) : (Op.bytesLess c.k.toList lo.toList = true ∧ inR lo.data.toList hi.data.toList c = false) ∨
    (Op.bytesLess c.k.toList lo.toList = false ∧ hi = ⟨#[]⟩ ∧ inR lo.data.toList hi.data.toList c = true) ∨
    (Op.bytesLess c.k.toList lo.toList = false ∧ hi.toList.isEmpty = false ∧ Op.bytesLess c.k.toList hi.toList = true ∧ inR lo.data.toList hi.data.toList c = true) ∨
    (Op.bytesLess c.k.toList lo.toList = false ∧ hi.toList.isEmpty = false ∧ Op.bytesLess c.k.toList hi.toList = false ∧ inR lo.data.toList hi.data.toList c = false) := by
  simp only [ByteArray.toList_eq, bytesLess_lt]
  unfold inR Chg.kb
  by_cases h1 : c.k.data.toList < lo.data.toList
  · exact .inl ⟨decide_eq_true h1, by simp [h1]⟩
  · by_cases h2 : hi = ⟨#[]⟩
    · exact .inr (.inl ⟨decide_eq_false h1, h2, by subst h2; simp [h1]⟩)
    · have h2' : hi.data.toList.isEmpty = false := by
        rw [← Bool.not_eq_true, empty_iff]
        exact h2
      by_cases h3 : c.k.data.toList < hi.data.toList
      · exact .inr (.inr (.inl ⟨decide_eq_false h1, h2', decide_eq_true h3, by simp [h1, h3]⟩))
      · refine .inr (.inr (.inr ⟨decide_eq_false h1, h2', decide_eq_false h3, ?_⟩))
        rw [h2']
        simp [h3]
set_option maxRecDepth 100000 in
set_option maxHeartbeats 3200000 in
theorem refSlice_any (A : Option Addr) (n ca C : Nat) (l : List Chg) (lo hi : ByteArray) (w : World) (h : HasChs w C A n l) (hC : C ≤ w.heap.size) (hn : n ≤ 700) :
    Calls Try.prog 63 #[.slice A n ca, .agg #[.string lo, .string hi]] w (GivesC w.heap.size (sliceT lo.data.toList hi.data.toList l) w) := by
  have H := Lib.hid h
  have HC := Lib.hid hC
  have Hl := Lib.hid h.1
  have Hrt := Lib.hid (fun wx (hx : Below w.heap.size w wx) => refRight_any A n ca C l wx (h.belowOf hx hC) (by unfold maxLen; omega) (Nat.le_trans hC hx.size))
  clear h hC
  by_cases hr : Run l
  · rw [sliceT_run hr]
    rw [runB_true hr] at Hrt
    clear hr
    go_enter Try.func63, Try.ntmps63
    go_wp2
    go_loopw [5, 6] (fun o i wr => ∃ k : Nat, k ≤ n ∧ i = .int .i64 (k : Int) ∧ OwnChs wr (w.heap.size + 1) o (sliceL lo.data.toList hi.data.toList (l.take k)) ∧ Below (w.heap.size + 1) (w.alloc (.cells #[.string lo, .string hi] 35)) wr) (fun _ i _ => n - (intOf i).toNat)
    case atStart => exact ⟨0, by omega, rfl, OwnChs.nil _ _, Below.refl _ _⟩
    case round =>
      obtain ⟨k, hk, rfl, ho, hb⟩ := hrel
      have Ho := Lib.hid ho
      have Hb := Lib.hid hb
      have hsz : w.heap.size + 1 ≤ wr.heap.size := by have := hb.size; simpa using this
      have Hrt1 := Lib.hid (Hrt.out wr (below_in hb (Nat.le_refl _)))
      clear hb ho
      by_cases hlt : k < n
      · go_wp2_with fail
        refine Hrt1.out.mono ?_
        rintro e w2 ⟨rfl, hb2⟩
        have Hb2 := Lib.hid (Hb.out.trans (hb2.mono hsz))
        have hsz2 : w.heap.size + 1 ≤ w2.heap.size := Nat.le_trans hsz hb2.size
        have Ho2 := Lib.hid (Ho.out.below hb2)
        clear hb2
        have hbx := (Box.made w 35 #[.string lo, .string hi]).below Hb2.out (by simp)
        have q0 := hbx.cell 0
        have q1 := hbx.cell 1
        have Hlen := Lib.hid (slice_len lo.data.toList hi.data.toList (l.take k))
        have Hlk : Hid ((l.take k).length = k) := Lib.hid (by rw [List.length_take]; have := Hl.out; omega)
        obtain ⟨a, y, rfl, hab, hy, c0, c1, c2⟩ := (H.out.belowOf (below_in Hb2.out HC.out) (Nat.le_refl _)).at_ hlt
        have Hss := Lib.hid (slice_succ (lo := lo.data.toList) (hi := hi.data.toList) hy)
        have hk0 : (0 : Int) ≤ (k : Int) := by omega
        have hk1 : (k : Int) < (n : Int) := by omega
        clear hy hbx
        rcases inR_cases lo hi y with ⟨e1, e4⟩ | ⟨e1, rfl, e4⟩ | ⟨e1, e2, e3, e4⟩ | ⟨e1, e2, e3, e4⟩
        · rw [e4, if_neg (by simp), List.append_nil] at Hss
          clear e4
          obtain ⟨yk, yv, yg⟩ := y
          simp only at c0 c1 c2 e1
          go_wp2
          go_quiet (fail)
          go_wp2
          go_roundw
          case rel => exact ⟨k + 1, by omega, by go_num, by rw [Hss.out]; exact Ho2.out.below (below_dr (Below.refl _ _) _), below_dr Hb2.out _⟩
          case measure => simp [intOf]; omega
        · rw [e4, if_pos rfl] at Hss
          clear e4
          obtain ⟨yk, yv, yg⟩ := y
          simp only at c0 c1 c2 e1
          go_wp2
          go_quiet (fail)
          go_wp2_with (at_builtin; refine wpList_append_hasN rfl (.tmp 40) (.tmp 45) _ rfl 38 chg_elem (by omega) Try.underlying22 rfl (own_drawn Ho2.out _ _) rfl (chg_lit _ ⟨yk, yv, yg⟩) (chgCells_one _) (by have := Hlen.out; have := Hlk.out; simp only [maxLen]; omega) (by have := Hlen.out; have := Hlk.out; omega) (by simp only [World.size_alloc]; exact Nat.le_succ_of_le hsz2) ?_; intro v3 w3 hown3 hg3 _)
          have Hb3 := Lib.hid (below_app Hb2.out Ho2.out hg3 hsz2)
          have Hown3 := Lib.hid hown3
          clear hg3 hown3
          go_wp2
          go_roundw
          case rel => exact ⟨k + 1, by omega, by go_num, by rw [Hss.out]; unfold OwnChs; rw [List.length_append, chgCells_app]; exact Hown3.out, Hb3.out⟩
          case measure => simp [intOf]; omega
        · rw [e4, if_pos rfl] at Hss
          clear e4
          obtain ⟨yk, yv, yg⟩ := y
          simp only at c0 c1 c2 e1 e3
          go_wp2
          go_quiet (fail)
          go_wp2_with (at_builtin; refine wpList_append_hasN rfl (.tmp 40) (.tmp 45) _ rfl 38 chg_elem (by omega) Try.underlying22 rfl (own_drawn Ho2.out _ _) rfl (chg_lit _ ⟨yk, yv, yg⟩) (chgCells_one _) (by have := Hlen.out; have := Hlk.out; simp only [maxLen]; omega) (by have := Hlen.out; have := Hlk.out; omega) (by simp only [World.size_alloc]; exact Nat.le_succ_of_le hsz2) ?_; intro v3 w3 hown3 hg3 _)
          have Hb3 := Lib.hid (below_app Hb2.out Ho2.out hg3 hsz2)
          have Hown3 := Lib.hid hown3
          clear hg3 hown3
          go_wp2
          go_roundw
          case rel => exact ⟨k + 1, by omega, by go_num, by rw [Hss.out]; unfold OwnChs; rw [List.length_append, chgCells_app]; exact Hown3.out, Hb3.out⟩
          case measure => simp [intOf]; omega
        · rw [e4, if_neg (by simp), List.append_nil] at Hss
          clear e4
          obtain ⟨yk, yv, yg⟩ := y
          simp only at c0 c1 c2 e1 e3
          go_wp2
          go_quiet (fail)
          go_wp2
          go_roundw
          case rel => exact ⟨k + 1, by omega, by go_num, by rw [Hss.out]; exact Ho2.out.below (below_dr (Below.refl _ _) _), below_dr Hb2.out _⟩
          case measure => simp [intOf]; omega
      · obtain rfl : k = n := by omega
        have E : Hid (l.take k = l) := Lib.hid (List.take_of_length_le (by have := Hl.out; omega))
        rw [E.out] at Ho
        go_wp2
        go_ret
        exact ⟨_, rfl, own_baseN Ho.out (Nat.le_succ _), below_in Hb.out (Nat.le_refl _)⟩
  · rw [sliceT_no hr]
    rw [runB_false hr] at Hrt
    have hpos : 0 < n := by
      rw [← Hl.out]
      cases l with
      | nil => exact absurd Run.nil hr
      | cons x l => simp
    clear hr
    have Hrt1 := Lib.hid (Hrt.out _ (below_box (Obj.cells #[.string lo, .string hi] 35)))
    have hpi : (0 : Int) < (n : Int) := by omega
    go_enter Try.func63, Try.ntmps63
    go_wp2
    go_loopw [5, 6] (fun o i wr => i = .int .i64 0 ∧ o = .slice none 0 0 ∧ wr = w.alloc (.cells #[.string lo, .string hi] 35)) (fun _ i _ => 0)
    case atStart => exact ⟨rfl, rfl, rfl⟩
    case round =>
      obtain ⟨rfl, rfl, rfl⟩ := hrel
      go_wp2_with fail
      refine Hrt1.out.mono ?_
      rintro e w2 ⟨rfl, hb2⟩
      have Hb2 := Lib.hid ((below_box (Obj.cells #[.string lo, .string hi] 35)).trans (hb2.mono (by simp)))
      clear hb2
      go_wp2
      go_ret
      exact ⟨_, rfl, OwnChs.nil _ _, Hb2.out⟩

set_option maxRecDepth 100000 in
set_option maxHeartbeats 3200000 in
theorem slice_any (A : Option Addr) (n ca C : Nat) (l : List Chg) (lo hi : ByteArray) (w : World) (h : HasChs w C A n l) (hC : C ≤ w.heap.size) (hn : n ≤ 700) (hs : ∀ x ∈ l, x.k.size ≤ 4000 ∧ x.v.size ≤ 4000) :
    Calls Try.prog 20 #[.slice A n ca, .agg #[.string lo, .string hi]] w (GivesC w.heap.size (sliceT lo.data.toList hi.data.toList l) w) := by
  have H := Lib.hid h
  have HC := Lib.hid hC
  have Hl := Lib.hid h.1
  have Hs := Lib.hid hs
  have Hrt := Lib.hid (wrong_any A n ca C l _ (h.belowOf (below_box (Obj.cells #[.string lo, .string hi] 35)) hC) (by unfold maxLen; omega) (Nat.le_trans hC (Nat.le_of_lt (by simp : w.heap.size < (w.alloc (Obj.cells #[.string lo, .string hi] 35)).heap.size))))
  clear h hC hs
  by_cases hr : Run l
  · rw [sliceT_run hr]
    rw [runB_true hr] at Hrt
    clear hr
    go_enter Try.func20, Try.ntmps20
    go_wp2_with fail
    refine Hrt.out.mono ?_
    rintro e w1 ⟨rfl, hb1⟩
    have Hb1 : Hid (Below (w.heap.size + 1) (w.alloc (.cells #[.string lo, .string hi] 35)) w1) := Lib.hid (by simpa using hb1)
    clear hb1
    go_wp2
    go_loopw [5, 7, 12] (fun o _ i wr => ∃ k : Nat, k ≤ n ∧ i = .int .i64 (k : Int) ∧ OwnChs wr (w.heap.size + 1) o (sliceL lo.data.toList hi.data.toList (l.take k)) ∧ Below (w.heap.size + 1) (w.alloc (.cells #[.string lo, .string hi] 35)) wr) (fun _ _ i _ => n - (intOf i).toNat)
    case atStart => exact ⟨0, by omega, rfl, OwnChs.nil _ _, Hb1.out⟩
    case round =>
      obtain ⟨k, hk, rfl, ho, hb⟩ := hrel
      have Ho := Lib.hid ho
      have Hb := Lib.hid hb
      have hsz : w.heap.size + 1 ≤ wr.heap.size := by have := hb.size; simpa using this
      have hbx := (Box.made w 35 #[.string lo, .string hi]).below hb (by simp)
      have q0 := hbx.cell 0
      have q1 := hbx.cell 1
      have q2 : ∀ o, (wr.alloc o).cell? ⟨w.heap.size, 0, none⟩ = some (.string lo) := fun o => ((below_box o).cell (p := ⟨w.heap.size, 0, none⟩) (by exact hsz)).trans q0
      have q3 : ∀ o, (wr.alloc o).cell? ⟨w.heap.size, 1, none⟩ = some (.string hi) := fun o => ((below_box o).cell (p := ⟨w.heap.size, 1, none⟩) (by exact hsz)).trans q1
      clear hb ho hbx
      by_cases hlt : k < n
      · have Hlen := Lib.hid (slice_len lo.data.toList hi.data.toList (l.take k))
        have Hlk : Hid ((l.take k).length = k) := Lib.hid (by rw [List.length_take]; have := Hl.out; omega)
        obtain ⟨a, y, rfl, hab, hy, c0, c1, c2⟩ := (H.out.belowOf (below_in Hb.out HC.out) (Nat.le_refl _)).at_ hlt
        have Hss := Lib.hid (slice_succ (lo := lo.data.toList) (hi := hi.data.toList) hy)
        have hys := Hs.out y (List.mem_of_getElem? hy)
        have hk0 : (0 : Int) ≤ (k : Int) := by omega
        have hk1 : (k : Int) < (n : Int) := by omega
        clear hy
        rcases inR_cases lo hi y with ⟨e1, e4⟩ | ⟨e1, rfl, e4⟩ | ⟨e1, e2, e3, e4⟩ | ⟨e1, e2, e3, e4⟩
        · rw [e4, if_neg (by simp), List.append_nil] at Hss
          clear e4
          obtain ⟨yk, yv, yg⟩ := y
          simp only at c0 c1 c2 e1
          go_wp2
          go_roundw
          case rel => exact ⟨k + 1, by omega, by go_num, by rw [Hss.out]; exact Ho.out.below (below_box _), Hb.out.alloc hsz _⟩
          case measure => simp [intOf]; omega
        · rw [e4, if_pos rfl] at Hss
          clear e4
          obtain ⟨yk, yv, yg⟩ := y
          simp only at c0 c1 c2 e1 hys
          have Hcl := Lib.hid (fun wx => cloneC_any ⟨yk, yv, yg⟩ wx (by simp only; omega) (by simp only; omega))
          unfold cagg at Hcl
          go_wp2_with fail
          refine (Hcl.out _).mono ?_
          rintro e w3 ⟨rfl, hb3⟩
          have Ho3 := Lib.hid ((Ho.out.below (below_box (Obj.cells #[.string yk, .string yv, .bool yg] 38))).below hb3)
          have hsz1 : w.heap.size + 1 ≤ (wr.alloc (Obj.cells #[.string yk, .string yv, .bool yg] 38)).heap.size := by simp only [World.size_alloc]; omega
          have Hb3 := Lib.hid ((Hb.out.alloc hsz (Obj.cells #[.string yk, .string yv, .bool yg] 38)).trans (hb3.mono hsz1))
          have hsz3 : w.heap.size + 1 ≤ w3.heap.size := Nat.le_trans hsz1 hb3.size
          clear hb3 c0 c1 c2 q2 q3
          go_wp2_with (at_builtin; refine wpList_append_hasN rfl (.tmp 33) (.tmp 36) _ rfl 38 chg_elem (by omega) Try.underlying22 rfl (own_drawn Ho3.out 0 _) rfl (chg_lit _ ⟨yk, yv, yg⟩) (chgCells_one _) (by have := Hlen.out; have := Hlk.out; simp only [maxLen]; omega) (by have := Hlen.out; have := Hlk.out; omega) (by simp only [World.size_alloc]; exact Nat.le_succ_of_le hsz3) ?_; intro v4 w4 hown4 hg4 _)
          have Hb4 := Lib.hid (below_app (k := 0) Hb3.out Ho3.out hg4 hsz3)
          have Hown4 := Lib.hid hown4
          clear hg4 hown4
          go_wp2
          go_roundw
          case rel => exact ⟨k + 1, by omega, by go_num, by rw [Hss.out]; unfold OwnChs; rw [List.length_append, chgCells_app]; exact Hown4.out, Hb4.out⟩
          case measure => simp [intOf]; omega
        · rw [e4, if_pos rfl] at Hss
          clear e4
          obtain ⟨yk, yv, yg⟩ := y
          simp only at c0 c1 c2 e1 e3 hys
          have Hcl := Lib.hid (fun wx => cloneC_any ⟨yk, yv, yg⟩ wx (by simp only; omega) (by simp only; omega))
          unfold cagg at Hcl
          go_wp2_with fail
          refine (Hcl.out _).mono ?_
          rintro e w3 ⟨rfl, hb3⟩
          have Ho3 := Lib.hid ((Ho.out.below (below_box (Obj.cells #[.string yk, .string yv, .bool yg] 38))).below hb3)
          have hsz1 : w.heap.size + 1 ≤ (wr.alloc (Obj.cells #[.string yk, .string yv, .bool yg] 38)).heap.size := by simp only [World.size_alloc]; omega
          have Hb3 := Lib.hid ((Hb.out.alloc hsz (Obj.cells #[.string yk, .string yv, .bool yg] 38)).trans (hb3.mono hsz1))
          have hsz3 : w.heap.size + 1 ≤ w3.heap.size := Nat.le_trans hsz1 hb3.size
          clear hb3 c0 c1 c2 q2 q3
          go_wp2_with (at_builtin; refine wpList_append_hasN rfl (.tmp 33) (.tmp 36) _ rfl 38 chg_elem (by omega) Try.underlying22 rfl (own_drawn Ho3.out 0 _) rfl (chg_lit _ ⟨yk, yv, yg⟩) (chgCells_one _) (by have := Hlen.out; have := Hlk.out; simp only [maxLen]; omega) (by have := Hlen.out; have := Hlk.out; omega) (by simp only [World.size_alloc]; exact Nat.le_succ_of_le hsz3) ?_; intro v4 w4 hown4 hg4 _)
          have Hb4 := Lib.hid (below_app (k := 0) Hb3.out Ho3.out hg4 hsz3)
          have Hown4 := Lib.hid hown4
          clear hg4 hown4
          go_wp2
          go_roundw
          case rel => exact ⟨k + 1, by omega, by go_num, by rw [Hss.out]; unfold OwnChs; rw [List.length_append, chgCells_app]; exact Hown4.out, Hb4.out⟩
          case measure => simp [intOf]; omega
        · rw [e4, if_neg (by simp), List.append_nil] at Hss
          clear e4
          obtain ⟨yk, yv, yg⟩ := y
          simp only at c0 c1 c2 e1 e3
          go_wp2
          go_roundw
          case rel => exact ⟨k + 1, by omega, by go_num, by rw [Hss.out]; exact Ho.out.below (below_box _), Hb.out.alloc hsz _⟩
          case measure => simp [intOf]; omega
      · obtain rfl : k = n := by omega
        have E : Hid (l.take k = l) := Lib.hid (List.take_of_length_le (by have := Hl.out; omega))
        rw [E.out] at Ho
        go_wp2
        go_ret
        exact ⟨_, rfl, own_baseN Ho.out (Nat.le_succ _), below_in Hb.out (Nat.le_refl _)⟩
  · rw [sliceT_no hr]
    rw [runB_false hr] at Hrt
    clear hr
    go_enter Try.func20, Try.ntmps20
    go_wp2_with fail
    refine Hrt.out.mono ?_
    rintro e w1 ⟨rfl, hb1⟩
    have Hb1 : Hid (Below w.heap.size w w1) := Lib.hid ((below_box _).trans (hb1.mono (by simp)))
    clear hb1
    go_wp2
    go_ret
    exact ⟨_, rfl, OwnChs.nil _ _, Hb1.out⟩
end Go.Proofs.Ytfmjjjfeooaeeaa

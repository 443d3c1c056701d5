/- What the small functions of span, and of the document, answer of ranges and texts. No condition. -/
import Derived.Test.YtijcaefpainhcaaRngA
import Derived.Deep.RegionWith
import Derived.Deep.RegionHeld3
import Derived.Test.YtijcaefpainhcaaCmpS
namespace Go.Proofs.Ytijcaefpainhcaa
open Go.RowKit
open Go.Lib (strCells compareBytes)

set_option maxRecDepth 100000 in
theorem below_any (s hi : ByteArray) (w : World) : Calls Try.prog 47 #[.string s, .string hi] w fun e w' => e = .returned (.bool (decide (belowT s.data.toList hi.data.toList))) ∧ w' = w := by
  by_cases h : hi = ⟨#[]⟩
  · subst h
    have E : Hid (decide (belowT s.data.toList (⟨#[]⟩ : ByteArray).data.toList) = true) := Lib.hid (decide_eq_true (.inl rfl))
    go_enter Try.func47, Try.ntmps47
    go_wp2
    go_ret
    exact ⟨ret_bool (by rw [E.out]), rfl⟩
  · have h1 := text_nil h
    have h2 := text_less s hi
    have E : Hid (decide (s.data.toList < hi.data.toList) = decide (belowT s.data.toList hi.data.toList)) := Lib.hid (decide_eq_decide.2 ⟨fun e => .inr e, fun e => e.resolve_left (text_ne h)⟩)
    rw [E.out] at h2
    clear h E
    go_enter Try.func47, Try.ntmps47
    go_wp2
    go_ret
    exact ⟨rfl, rfl⟩
set_option maxRecDepth 100000 in
theorem sooner_any (h o : ByteArray) (w : World) : Calls Try.prog 43 #[.string h, .string o] w fun e w' => e = .returned (.bool (decide (soonT h.data.toList o.data.toList))) ∧ w' = w := by
  by_cases e : h = ⟨#[]⟩
  · subst e
    have E : Hid (decide (soonT (⟨#[]⟩ : ByteArray).data.toList o.data.toList) = false) := Lib.hid (decide_eq_false fun h => h.1 rfl)
    go_enter Try.func43, Try.ntmps43
    go_wp2
    go_ret
    exact ⟨ret_bool (by rw [E.out]), rfl⟩
  · have h1 := text_nil e
    have E : Hid (decide (belowT h.data.toList o.data.toList) = decide (soonT h.data.toList o.data.toList)) := Lib.hid (decide_eq_decide.2 ⟨fun h2 => ⟨text_ne e, h2⟩, fun h2 => h2.2⟩)
    have Hc := Lib.hid (below_any h o w)
    rw [E.out] at Hc
    clear e E
    go_enter Try.func43, Try.ntmps43
    go_wp2_with fail
    refine Hc.out.mono ?_
    rintro e w' ⟨rfl, rfl⟩
    go_wp2
    go_ret
    exact ⟨rfl, rfl⟩
set_option maxRecDepth 100000 in
theorem apart_any (a b : Rg) (w : World) : Calls Try.prog 53 #[ragg a, ragg b] w fun e w' => e = .returned (.bool (decide (Gap a b))) ∧ Below w.heap.size w w' := by
  have hb2 : Below w.heap.size w ((w.alloc (.cells #[.string a.lo, .string a.hi] 23)).alloc (.cells #[.string b.lo, .string b.hi] 23)) := (below_box _).alloc (by simp) _
  have Hb := Lib.hid hb2
  clear hb2
  obtain ⟨al, ah⟩ := a
  obtain ⟨bl, bh⟩ := b
  unfold ragg
  by_cases e : ah = ⟨#[]⟩
  · subst e
    have E : Hid (decide (Gap ⟨al, ⟨#[]⟩⟩ ⟨bl, bh⟩) = false) := Lib.hid (decide_eq_false fun h => h.1 rfl)
    go_enter Try.func53, Try.ntmps53
    go_wp2
    go_ret
    exact ⟨ret_bool (by rw [E.out]), Hb.out⟩
  · have h1 := text_nil e
    have h2 := text_less ah bl
    have E : Hid (decide (ah.data.toList < bl.data.toList) = decide (Gap ⟨al, ah⟩ ⟨bl, bh⟩)) := Lib.hid (decide_eq_decide.2 ⟨fun h2 => ⟨text_ne e, h2⟩, fun h2 => h2.2⟩)
    rw [E.out] at h2
    clear e E
    go_enter Try.func53, Try.ntmps53
    go_wp2
    go_ret
    exact ⟨rfl, Hb.out⟩
set_option maxRecDepth 100000 in
theorem empty_any (r : Rg) (w : World) : Calls Try.prog 14 #[ragg r] w fun e w' => e = .returned (.bool (decide (emptyR r))) ∧ Below w.heap.size w w' := by
  have Hc := Lib.hid (fun wx => below_any r.lo r.hi wx)
  have E : Hid (decide (emptyR r) = !decide (belowT r.lo.data.toList r.hi.data.toList)) := Lib.hid (by
    by_cases h : belowT r.lo.data.toList r.hi.data.toList
    · rw [decide_eq_true h, decide_eq_false (fun h' : emptyR r => h' h)]; rfl
    · rw [decide_eq_false h, decide_eq_true (show emptyR r from h)]; rfl)
  obtain ⟨d, hd⟩ : ∃ d, decide (belowT r.lo.data.toList r.hi.data.toList) = d := ⟨_, rfl⟩
  simp only [hd] at Hc E
  rw [E.out]
  clear E hd
  unfold ragg
  go_enter Try.func14, Try.ntmps14
  go_wp2_with fail
  refine (Hc.out _).mono ?_
  rintro e w' ⟨rfl, rfl⟩
  go_wp2
  go_ret
  exact ⟨rfl, below_box _⟩
set_option maxRecDepth 100000 in
theorem has_any (r : Rg) (s : ByteArray) (w : World) : Calls Try.prog 16 #[ragg r, .string s] w fun e w' => e = .returned (.bool (decide (hasR r s.data.toList))) ∧ Below w.heap.size w w' := by
  have h2 := text_less s r.lo
  have h3 := text_eq s r.lo
  by_cases h : s.data.toList < r.lo.data.toList
  · have E : Hid (decide (hasR r s.data.toList) = false) := Lib.hid (decide_eq_false fun h' => h'.1 h)
    rw [decide_eq_true h] at h2
    rw [decide_eq_false (fun e => by rw [e] at h; exact lt_irr _ h)] at h3
    clear h
    unfold ragg
    go_enter Try.func16, Try.ntmps16
    go_wp2
    go_ret
    exact ⟨ret_bool (by rw [E.out]), below_box _⟩
  · have E : Hid (decide (belowT s.data.toList r.hi.data.toList) = decide (hasR r s.data.toList)) := Lib.hid (decide_eq_decide.2 ⟨fun h' => ⟨h, h'⟩, fun h' => h'.2⟩)
    have Hc := Lib.hid (fun wx => below_any s r.hi wx)
    rw [E.out] at Hc
    rw [decide_eq_false h] at h2
    clear h E
    unfold ragg
    go_enter Try.func16, Try.ntmps16
    go_wp2_with fail
    refine (Hc.out _).mono ?_
    rintro e w' ⟨rfl, rfl⟩
    go_wp2
    go_ret
    exact ⟨rfl, below_box _⟩
set_option maxRecDepth 100000 in
theorem refEmpty_any (r : Rg) (w : World) : Calls Try.prog 15 #[ragg r] w fun e w' => e = .returned (.bool (decide (emptyR r))) ∧ Below w.heap.size w w' := by
  by_cases e : r.hi = ⟨#[]⟩
  · have E : Hid (decide (emptyR r) = false) := Lib.hid (decide_eq_false fun h => h (.inl (by unfold Rg.hb; rw [e])))
    unfold ragg
    rw [e]
    clear e
    go_enter Try.func15, Try.ntmps15
    go_wp2
    go_ret
    exact ⟨ret_bool (by rw [E.out]), below_box _⟩
  · have h1 := text_nil e
    have h2 := text_less r.hi r.lo
    have h3 := text_eq r.hi r.lo
    have E : Hid ((decide (r.hi.data.toList < r.lo.data.toList) || decide (r.hi = r.lo)) = decide (emptyR r)) := Lib.hid (by
      rw [← Bool.decide_or]
      refine decide_eq_decide.2 ⟨fun h h' => ?_, fun h => ?_⟩
      · have h4 := h'.resolve_left (text_ne e)
        rcases h with h | h
        · exact lt_asymm' h h4
        · unfold Rg.lb Rg.hb at h4; rw [h] at h4; exact lt_irr _ h4
      · rcases lt_tri r.lo.data.toList r.hi.data.toList with h5 | h5 | h5
        · exact absurd (.inr h5) h
        · exact .inr (bytes_ext h5).symm
        · exact .inl h5)
    obtain ⟨x, hx⟩ : ∃ x, decide (r.hi.data.toList < r.lo.data.toList) = x := ⟨_, rfl⟩
    obtain ⟨y, hy⟩ : ∃ y, decide (r.hi = r.lo) = y := ⟨_, rfl⟩
    rw [hx] at h2 E
    rw [hy] at h3 E
    clear e hx hy
    unfold ragg
    go_enter Try.func15, Try.ntmps15
    go_wp2
    go_ret
    exact ⟨ret_bool (by rw [← E.out]), below_box _⟩
set_option maxRecDepth 100000 in
theorem refHas_any (r : Rg) (s : ByteArray) (w : World) : Calls Try.prog 17 #[ragg r, .string s] w fun e w' => e = .returned (.bool (decide (hasR r s.data.toList))) ∧ Below w.heap.size w w' := by
  have h2 := text_less s r.lo
  have h3 := text_eq s r.lo
  by_cases h : s.data.toList < r.lo.data.toList
  · have E : Hid (decide (hasR r s.data.toList) = false) := Lib.hid (decide_eq_false fun h' => h'.1 h)
    rw [decide_eq_true h] at h2
    rw [decide_eq_false (fun e => by rw [e] at h; exact lt_irr _ h)] at h3
    clear h
    unfold ragg
    go_enter Try.func17, Try.ntmps17
    go_wp2
    go_ret
    exact ⟨ret_bool (by rw [E.out]), below_box _⟩
  · rw [decide_eq_false h] at h2
    by_cases e : r.hi = ⟨#[]⟩
    · have E : Hid (decide (hasR r s.data.toList) = true) := Lib.hid (decide_eq_true ⟨h, .inl (by unfold Rg.hb; rw [e])⟩)
      unfold ragg
      rw [e]
      clear e h
      go_enter Try.func17, Try.ntmps17
      go_wp2
      go_ret
      exact ⟨ret_bool (by rw [E.out]), below_box _⟩
    · have h4 := text_nil e
      have h5 := text_less s r.hi
      have E : Hid (decide (s.data.toList < r.hi.data.toList) = decide (hasR r s.data.toList)) := Lib.hid (decide_eq_decide.2 ⟨fun h' => ⟨h, .inr h'⟩, fun h' => h'.2.resolve_left (text_ne e)⟩)
      rw [E.out] at h5
      clear e h E
      unfold ragg
      go_enter Try.func17, Try.ntmps17
      go_wp2
      go_ret
      exact ⟨rfl, below_box _⟩
/-- the program's own order of ranges: by Lo -/
def cmpR (a b : Rg) : Int := compareBytes a.lb b.lb
set_option maxRecDepth 100000 in
theorem cmpR_any (a b : Rg) (w : World) : Calls Try.prog 51 #[ragg a, ragg b] w fun e w' => e = .returned (.int .i64 (cmpR a b)) ∧ w' = (w.alloc (.cells #[.string a.lo, .string a.hi] 23)).alloc (.cells #[.string b.lo, .string b.hi] 23) := by
  have Hc := Lib.hid (fun wx => strCompare_any a.lo b.lo wx)
  obtain ⟨z, hz⟩ : ∃ z, compareBytes a.lo.data.toList b.lo.data.toList = z := ⟨_, rfl⟩
  have E : Hid (cmpR a b = z) := Lib.hid hz
  rw [hz] at Hc
  clear hz
  rw [E.out]
  unfold ragg
  go_enter Try.func51, Try.ntmps51
  go_wp2_with fail
  refine (Hc.out _).mono ?_
  rintro e w' ⟨rfl, rfl⟩
  go_wp2
  go_ret
  exact ⟨rfl, rfl⟩

end Go.Proofs.Ytijcaefpainhcaa

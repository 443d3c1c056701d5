/- SpanMeets: whether a range is empty or has a text, and what two have in common, are as the document says. No condition. -/
import Derived.Test.YtoifhpeohbbekaaRngP
import Derived.Test.YtoifhpeohbbekaaRngL
import Derived.Test.YtoifhpeohbbekaaOpenRng
import Derived.Test.YtoifhpeohbbekaaRow
namespace Go.Proofs.Ytoifhpeohbbekaa
open Go.RowKit
open Go.Lib (strCells compareBytes)

theorem two_lit (w : World) (a b : Rg) : HasRgs (w.alloc (.cells #[.string a.lo, .string a.hi, .string b.lo, .string b.hi] 25)) (w.heap.size + 1) (some ⟨w.heap.size, 0, none⟩) 2 [a, b] :=
  ⟨rfl, Has.lit w #[.string a.lo, .string a.hi, .string b.lo, .string b.hi] 25⟩
set_option maxRecDepth 100000 in
set_option maxHeartbeats 3200000 in
theorem meets_walk (a b : Rg) (s : ByteArray) (w : World) (ha : a.lo.size ≤ maxLen ∧ a.hi.size ≤ maxLen) (hb : b.lo.size ≤ maxLen ∧ b.hi.size ≤ maxLen) (hs : s.size ≤ maxLen) :
    Calls Try.prog 7 #[ragg a, ragg b, .string s] w fun e w' => e = .returned (.bool true) ∧ Below w.heap.size w w' := by
  have hab : ∀ r ∈ [a, b], r.lo.size ≤ maxLen ∧ r.hi.size ≤ maxLen := fun r hr => by
    rcases List.mem_cons.1 hr with h | h
    · subst h; exact ha
    · simp at h; subst h; exact hb
  have Hli : Hid (∀ wx : World, Calls Try.prog 36 #[.slice (some ⟨wx.heap.size, 0, none⟩) 2 2, .int .i64 2] (wx.alloc (.cells #[.string a.lo, .string a.hi, .string b.lo, .string b.hi] 25)) (LightPost [a, b] 2 (wx.alloc (.cells #[.string a.lo, .string a.hi, .string b.lo, .string b.hi] 25)))) := Lib.hid (fun wx => lightR_any (some ⟨wx.heap.size, 0, none⟩) 2 2 (wx.heap.size + 1) 2 [a, b] _ (two_lit wx a b) (by simp [maxLen]) hab)
  have Hme := Lib.hid (fun wx (h1 : a.lo.size ≤ 140737488355328 ∧ a.hi.size ≤ 140737488355328) (h2 : b.lo.size ≤ 140737488355328 ∧ b.hi.size ≤ 140737488355328) => meet_any a b wx h1 h2)
  have Hrm := Lib.hid (fun wx => refMeet_any a b wx)
  have He1 := Lib.hid (fun wx => empty_any a wx)
  have He2 := Lib.hid (fun wx => refEmpty_any a wx)
  have Hh1 := Lib.hid (fun wx => has_any a s wx)
  have Hh2 := Lib.hid (fun wx => refHas_any a s wx)
  unfold MeetPost at Hme Hrm
  obtain ⟨M, hM⟩ : ∃ M, (if emptyR (meetR a b) then (⟨⟨#[]⟩, ⟨#[]⟩⟩ : Rg) else meetR a b) = M := ⟨_, rfl⟩
  have hM2 : (if emptyR (meetR a b) then ragg ⟨⟨#[]⟩, ⟨#[]⟩⟩ else ragg (meetR a b)) = ragg M := by rw [← hM]; split <;> rfl
  obtain ⟨z, hz⟩ : ∃ z, (!decide (emptyR (meetR a b))) = z := ⟨_, rfl⟩
  simp only [hM2, hz] at Hme Hrm
  obtain ⟨d1, hd1⟩ : ∃ d, decide (emptyR a) = d := ⟨_, rfl⟩
  obtain ⟨d2, hd2⟩ : ∃ d, decide (hasR a s.data.toList) = d := ⟨_, rfl⟩
  simp only [hd1] at He1 He2
  simp only [hd2] at Hh1 Hh2
  clear hM hM2 hz hd1 hd2 ha hb hab
  obtain ⟨al, ah⟩ := a
  obtain ⟨bl, bh⟩ := b
  obtain ⟨zl, zh⟩ := M
  unfold ragg at *
  simp only at Hli Hme
  unfold maxLen at hs
  have HBx : Hid (∀ wx, Below ((w.alloc (.cells #[.string al, .string ah] 25)).alloc (.cells #[.string bl, .string bh] 25)).heap.size ((w.alloc (.cells #[.string al, .string ah] 25)).alloc (.cells #[.string bl, .string bh] 25)) wx → ((wx.cell? ⟨w.heap.size, 0, none⟩ = some (.string al) ∧ wx.cell? ⟨w.heap.size, 1, none⟩ = some (.string ah)) ∧ wx.cell? ⟨w.heap.size + 1, 0, none⟩ = some (.string bl) ∧ wx.cell? ⟨w.heap.size + 1, 1, none⟩ = some (.string bh)) ∧ Below w.heap.size w wx ∧ w.heap.size + 1 < wx.heap.size) := Lib.hid fun wx hx => by
    have h1 := (Box.made w 25 #[.string al, .string ah]).alloc (.cells #[.string bl, .string bh] 25)
    have h2 := Box.made (w.alloc (.cells #[.string al, .string ah] 25)) 25 #[.string bl, .string bh]
    have h3 := h1.below hx h1.lt
    have h4 := h2.below hx h2.lt
    rw [World.size_alloc] at h4
    exact ⟨⟨⟨h3.cell 0, h3.cell 1⟩, h4.cell 0, h4.cell 1⟩, ((below_box _).alloc (by simp only [World.size_alloc]; omega) _).trans (hx.mono (by simp only [World.size_alloc]; omega)), h4.lt⟩
  go_enter Try.func7, Try.ntmps7
  go_wp2_with fail
  refine (awakeR_any _).mono ?_
  rintro e w1 ⟨rfl, hb1⟩
  have Hb1 := Lib.hid hb1
  obtain ⟨⟨⟨p0, p1⟩, p2, p3⟩, -, hsz1⟩ := HBx.out w1 hb1
  clear hb1
  go_wp2_with fail
  refine (Hli.out w1).mono ?_
  rintro e w2 ⟨t, rfl, ht, rfl⟩
  have Hb2 := Lib.hid (Hb1.out.alloc Hb1.out.size (.cells #[.string al, .string ah, .string bl, .string bh] 25))
  obtain ⟨w2, hw2⟩ : ∃ w2, w1.alloc (.cells #[.string al, .string ah, .string bl, .string bh] 25) = w2 := ⟨_, rfl⟩
  rw [hw2] at Hb2 ⊢
  have Ht := Lib.hid ht
  obtain ⟨⟨⟨q0, q1⟩, q2, q3⟩, hbw2, hsz2⟩ := HBx.out w2 Hb2.out
  have Hbw2 := Lib.hid hbw2
  clear hw2 ht p0 p1 p2 p3 hbw2
  cases t with
  | false =>
    go_wp2
    go_ret
    exact ⟨rfl, Hbw2.out⟩
  | true =>
    by_cases hs2 : 200 < s.size
    · have hsd : decide ((200 : Int) < (s.size : Int)) = true := decide_eq_true (by omega)
      go_wp2
      go_ret
      exact ⟨rfl, Hbw2.out⟩
    · have hsd : decide ((200 : Int) < (s.size : Int)) = false := decide_eq_false (by omega)
      have hsm := (Ht.out rfl).2
      have ha := hsm ⟨al, ah⟩ (by simp)
      have hb := hsm ⟨bl, bh⟩ (by simp)
      have Hme1 := Lib.hid (fun wx => Hme.out wx ⟨by have := ha.1; show al.size ≤ _; simp only at this; omega, by have := ha.2; show ah.size ≤ _; simp only at this; omega⟩ ⟨by have := hb.1; show bl.size ≤ _; simp only at this; omega, by have := hb.2; show bh.size ≤ _; simp only at this; omega⟩)
      clear hsm ha hb hs2
      go_wp2_with fail
      refine (Hme1.out _).mono ?_
      rintro e w5 ⟨rfl, b5⟩
      have Hb5 := Lib.hid (Hb2.out.trans (b5.mono Hb2.out.size))
      have Hb6 := Lib.hid (Hb5.out.alloc Hb5.out.size (.cells #[.string zl, .string zh] 25))
      have Hbz := Lib.hid (Box.made w5 25 #[.string zl, .string zh])
      obtain ⟨⟨⟨r0, r1⟩, r2, r3⟩, -, hsz5⟩ := HBx.out w5 Hb5.out
      have hsz6 : w.heap.size < w5.heap.size := by omega
      clear b5 q0 q1 q2 q3
      go_wp2_with fail
      refine (Hrm.out _).mono ?_
      rintro e w7 ⟨rfl, b7⟩
      have Hb7 := Lib.hid (Hb6.out.trans (b7.mono Hb6.out.size))
      have hz7 := Hbz.out.below b7 Hbz.out.lt
      have Hb8 := Lib.hid (Hb7.out.alloc Hb7.out.size (.cells #[.string zl, .string zh] 25))
      have HK : Hid (∀ wx, Below (w7.alloc (.cells #[.string zl, .string zh] 25)).heap.size (w7.alloc (.cells #[.string zl, .string zh] 25)) wx → ((wx.cell? ⟨w.heap.size, 0, none⟩ = some (.string al) ∧ wx.cell? ⟨w.heap.size, 1, none⟩ = some (.string ah)) ∧ (wx.cell? ⟨w5.heap.size, 0, none⟩ = some (.string zl) ∧ wx.cell? ⟨w5.heap.size, 1, none⟩ = some (.string zh)) ∧ wx.cell? ⟨w7.heap.size, 0, none⟩ = some (.string zl) ∧ wx.cell? ⟨w7.heap.size, 1, none⟩ = some (.string zh)) ∧ Below (w7.alloc (.cells #[.string zl, .string zh] 25)).heap.size (w7.alloc (.cells #[.string zl, .string zh] 25)) wx) := Lib.hid fun wx hx => by
        have h1 := (HBx.out wx (Hb8.out.trans (hx.mono Hb8.out.size))).1.1
        have h2 := (hz7.alloc (.cells #[.string zl, .string zh] 25))
        have h3 := h2.below hx h2.lt
        have h4 := (Box.made w7 25 #[.string zl, .string zh]).below hx (by simp)
        exact ⟨⟨h1, ⟨h3.cell 0, h3.cell 1⟩, h4.cell 0, h4.cell 1⟩, hx⟩
      clear b7 hz7 r0 r1 r2 r3
      go_wp2
      go_region_held3 (fun wx => ((wx.cell? ⟨w.heap.size, 0, none⟩ = some (.string al) ∧ wx.cell? ⟨w.heap.size, 1, none⟩ = some (.string ah)) ∧ (wx.cell? ⟨w5.heap.size, 0, none⟩ = some (.string zl) ∧ wx.cell? ⟨w5.heap.size, 1, none⟩ = some (.string zh)) ∧ wx.cell? ⟨w7.heap.size, 0, none⟩ = some (.string zl) ∧ wx.cell? ⟨w7.heap.size, 1, none⟩ = some (.string zh)) ∧ Below (w7.alloc (.cells #[.string zl, .string zh] 25)).heap.size (w7.alloc (.cells #[.string zl, .string zh] 25)) wx)
        (first | exact HK.out _ (Below.refl _ _).drew | exact HK.out _ (keep_call (And.right (by assumption)) c1) | exact HK.out _ (keep_call (And.right (by assumption)) c2) | exact HK.out _ (keep_call (And.right (by assumption)) c3) | exact HK.out _ (keep_call (And.right (by assumption)) c4))
        (first
          | (go_at_call 39; refine (He1.out _).mono ?_; rintro e w8 ⟨rfl, c1⟩)
          | (go_at_call 40; refine (He2.out _).mono ?_; rintro e w9 ⟨rfl, c2⟩)
          | (go_at_call 41; refine (Hh1.out _).mono ?_; rintro e w10 ⟨rfl, c3⟩)
          | (go_at_call 42; refine (Hh2.out _).mono ?_; rintro e w11 ⟨rfl, c4⟩))
      all_goals
        have HE : Hid (Below w.heap.size w w11) := Lib.hid (HBx.out w11 (Hb8.out.trans ((And.right (by assumption) : Below (w7.alloc (.cells #[.string zl, .string zh] 25)).heap.size _ w11).mono Hb8.out.size))).2.1
        go_wp2
        go_ret
        exact ⟨rfl, HE.out⟩

namespace lawSpanMeets
open Go.ChangeShapes Go.WideShapes Go.ChangeAt

theorem own : ownKnob Try.prog.godebug = none := by kernel_rfl
theorem kids : Kids Try.prog (· < Try.prog.types.size) := kids_rows (by kernel_rfl) (by kernel_rfl)
theorem full : ∀ t e, t < Try.prog.types.size → Try.prog.underlying t = some (.slice e) → 0 < Try.prog.cellsOf e := slices_full_of Try.prog (by kernel_rfl)

set_option maxRecDepth 100000 in
theorem lifted (os : Os) (started : os.Started) (H : Type) (enc : TypeId × Value → H) :
    ReturnsInHanded {} Try.checked os 7 .any (Rows.spanMeetsSpec.pre6 enc Try.prog Try.f7 Rows.spanMeetsRow.domain false) (Rows.spanMeetsSpec.post enc Try.prog Try.f7 false true false false) := by
  refine returnsInHanded_of_change (C := Try.checked) own started (by kernel_rfl) Try.func7
    (ChangeSpec.witness6 (enc := enc) (C := Try.checked) false ⟨#[], #[.agg #[.string ⟨#[]⟩, .string ⟨#[]⟩], .agg #[.string ⟨#[]⟩, .string ⟨#[]⟩], .string ⟨#[]⟩], []⟩ 8 (by kernel_rfl) (by kernel_rfl) (by kernel_rfl) (by kernel_rfl)) ?_
  intro W base args ds gs before hval0 hW _ _
  have hval : ∀ (j : Nat) t v, Try.f7.params[j]? = some t → args[j]? = some v → Value.okWide Try.prog W .any base t v := hval0
  have hW' := hW
  obtain ⟨p, q, hA0, hV, rfl, _, _⟩ := hW
  obtain ⟨rfl, rfl⟩ := trodVars_none hV
  have hA : DataW.TrodAll enc Try.prog W 0 (fun _ => true) true Try.f7.params.toList args.toList ds p := hA0
  rw [Try.params7] at hA hval
  obtain ⟨v0, vs0, d0, ds0, p0, q0, hargs, rfl, rfl, h0, r0⟩ := trodAll_cons hA
  obtain ⟨v1, vs1, d1, ds1, p1, q1, rfl, rfl, rfl, h1, r1⟩ := trodAll_cons r0
  obtain ⟨v2, vs2, d2, ds2, p2, q2, rfl, rfl, rfl, h2, r2⟩ := trodAll_cons r1
  obtain ⟨rfl, rfl, rfl⟩ := trodAll_nil r2
  obtain rfl : args = #[v0, v1, v2] := by cases args; simp_all
  have hlt := hW'.lt
  obtain ⟨x0, y0, rfl, wx0, wy0⟩ := open_rg Try.underlying25 (by kernel_rfl) ⟨rfl, rfl⟩ ⟨by kernel_rfl, by kernel_rfl⟩ ⟨by kernel_rfl, by kernel_rfl⟩ (hval 0 25 v0 rfl rfl) h0
  obtain ⟨x1, y1, rfl, wx1, wy1⟩ := open_rg Try.underlying25 (by kernel_rfl) ⟨rfl, rfl⟩ ⟨by kernel_rfl, by kernel_rfl⟩ ⟨by kernel_rfl, by kernel_rfl⟩ (hval 1 25 v1 rfl rfl) h1
  obtain ⟨s2, rfl, _, _, ws2⟩ := Go.ChangeMaps.open_string Try.underlying9 (hval 2 9 v2 rfl rfl) h2
  refine (meets_walk ⟨x0, y0⟩ ⟨x1, y1⟩ s2 W ⟨wx0, wy0⟩ ⟨wx1, wy1⟩ ws2).mono fun e W' ⟨he, hbel⟩ => ?_
  subst he
  exact ⟨_, rfl, law_post kids full (of_decide_eq_true (by kernel_rfl)) Try.underlying4 rfl rfl rfl hW' hbel⟩

theorem proved : Rows.SpanMeetsSaid :=
  OpenClaim.holds_of_wide 7 Try.f7 rfl rfl rfl rfl rfl rfl rfl ⟨rfl, rfl, rfl, rfl, rfl⟩ rfl rfl rfl rfl rfl (by kernel_rfl) Try.func7 (by kernel_rfl)
    (of_decide_eq_true (by kernel_rfl)) (by unfold Func.isWrapper; first | (rw [if_pos (by decide +kernel)]; kernel_rfl) | (rw [if_neg (by decide +kernel)]; exact ⟨rfl, rfl⟩))
    (fun os started H enc _ => lifted os started H enc)
end lawSpanMeets

end Go.Proofs.Ytoifhpeohbbekaa

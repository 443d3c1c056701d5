/- The document's end: Save. Condition: the end is in memory; a million bytes at most. -/
import Derived.Test.YtaljojjpgkmiiaaSesM
import Derived.Test.YtaljojjpgkmiiaaWalkV
import Derived.Deep.RegionHeld3
namespace Go.Proofs.Ytaljojjpgkmiiaa
open Go.RowKit
open Go.Lib (strCells)

section
variable {w : World} {B g : Nat} {v : Value} {E : SE}
set_option maxRecDepth 100000 in
set_option maxHeartbeats 6400000 in
theorem refSave_any (h : RefAt w B g v E) (hb : (textsBody (raw E.l)).length ≤ 1000000) : Calls Try.prog 28 #[.pointer (some ⟨g, 0, none⟩)] w fun e w' => e = .returned (.string ⟨E.save.toArray⟩) ∧ Below w.heap.size w w' := by
  have Hln := Lib.hid (save_len E h.good hb)
  obtain ⟨A, c, rfl, hnc, -, hh⟩ := h.own.slice
  obtain ⟨D, hD⟩ : ∃ D : Nat, E.s - E.l.length = D := ⟨_, rfl⟩
  obtain ⟨m, hm⟩ : ∃ m : Nat, E.m = m := ⟨_, rfl⟩
  obtain ⟨s, hs⟩ : ∃ s : Nat, E.s = s := ⟨_, rfl⟩
  obtain ⟨N, hN⟩ : ∃ N, E.l.length = N := ⟨_, rfl⟩
  have hms : m < 9223372036854775808 := by have := h.good.ml; omega
  have hss : s < 9223372036854775808 := by have := h.good.sl; omega
  have Hms := Lib.hid (And.intro hms hss)
  have HK : Hid (∀ wx, Below w.heap.size w wx → (wx.cell? ⟨g, 0, none⟩ = some (.int .i64 m) ∧ wx.cell? ⟨g, 1, none⟩ = some (.int .i64 D) ∧ wx.cell? ⟨g, 2, none⟩ = some (.slice A N c)) ∧ Below w.heap.size w wx) := Lib.hid fun wx hx => by
    have hc := (h.below hx).box
    rw [hD, hm, hN] at hc
    exact ⟨⟨hc.cell 0, hc.cell 1, hc.cell 2⟩, hx⟩
  have hw : IntKind.i64.wrap ((D : Int) + (N : Int)) = (s : Int) := by rw [show (D : Int) + (N : Int) = (s : Int) from by have := h.good.le; omega]; exact IntWalk.i64_in _ (by have := h.good.sl; omega)
  have HT : Hid (∀ wx, Below w.heap.size w wx → Calls Try.prog 70 #[.slice A N c] wx (Gives wx.heap.size (textsForm (raw E.l)).length (byteCells (textsForm (raw E.l))) wx)) := Lib.hid fun wx hx => refPutTexts_any A N c w.heap.size E.l wx (by have h9 := hh.below hx; rwa [hN] at h9) hx.size hb (by have := h.good.ll; omega)
  have HS : Hid (E.save = numForm m ++ (numForm s ++ textsForm (raw E.l))) := Lib.hid (by unfold SE.save; rw [hm, hs])
  obtain ⟨F, hF⟩ : ∃ F, E.save = F := ⟨_, rfl⟩
  obtain ⟨T, hT⟩ : ∃ T, textsForm (raw E.l) = T := ⟨_, rfl⟩
  rw [hF] at HS ⊢
  rw [hT] at HS HT Hln
  rw [hm, hs] at Hln
  have hl9 := Hln.out.1
  have hl9n := Hln.out.2.1
  obtain ⟨⟨p0, p1, p2⟩, -⟩ := HK.out w (Below.refl _ _)
  clear h hb hh hm hs hN hF hT hms hss hnc hD
  go_enter Try.func28, Try.ntmps28
  go_wp2
  go_region_held3 (fun wx => (wx.cell? ⟨g, 0, none⟩ = some (.int .i64 m) ∧ wx.cell? ⟨g, 1, none⟩ = some (.int .i64 D) ∧ wx.cell? ⟨g, 2, none⟩ = some (.slice A N c)) ∧ Below w.heap.size w wx)
    (first | exact HK.out _ (Below.refl _ _).drew | exact HK.out _ (below_thn (And.right (by assumption)) b1 (And.right (by assumption) : Below w.heap.size w _).size) | exact HK.out _ (below_thn (And.right (by assumption)) b2 (And.right (by assumption) : Below w.heap.size w _).size) | exact HK.out _ hbA)
    (first
      | (go_at_call_of 69 (Value.int IntKind.i64 (m : Int)); refine (refPutNum_any (m : Int) _ (by have := Hms.out.1; omega)).mono ?_; rintro e w3 ⟨v3, rfl, o3, b1⟩; rw [if_neg (by omega), Int.toNat_natCast] at o3; obtain ⟨A3, m3, rfl, -, -, -⟩ := own_slice o3)
      | (go_at_call_of 69 (Value.int IntKind.i64 (s : Int)); refine (refPutNum_any (s : Int) _ (by have := Hms.out.2; omega)).mono ?_; rintro e w4 ⟨v4, rfl, o4, b2⟩; rw [if_neg (by omega), Int.toNat_natCast] at o4; obtain ⟨A4, m4, rfl, -, -, x4⟩ := own_slice o4; have b12 : Below w.heap.size w w4 := (((Below.refl w.heap.size w).drew).trans b1).trans (b2.mono b1.size); have o34 := own_belowN o3 b2)
      | (refine step_append_hasN (by rfl) _ _ _ (by rfl) 5 u8_elemN (by omega) Try.underlying76 (by rfl) o34 (by rfl) (by rw [Nat.mul_one]; exact x4) (byteCells_one _) (by simp only [maxLen]; omega) (by omega) (Nat.le_trans b1.size b2.size) ?_; intro vA wA oA gA zA; have hbA : Below w.heap.size w wA := b12.grown gA b12.size (fun g e => (o3.lt g e).1)))
  obtain ⟨A5, c5, rfl, -, -, -⟩ := own_sliceN oA
  have HoA : Hid (wA.ownsRow w.heap.size 5 1 (.slice A5 ((numForm m).length + (numForm s).length) c5) ((numForm m).length + (numForm s).length) (byteCells (numForm m) ++ byteCells (numForm s))) := Lib.hid oA
  have HBA := Lib.hid hbA
  clear ‹_ ∧ Below w.heap.size w wA› o3 o4 b1 b2 b12 x4 o34 oA gA zA hbA p0 p1 p2
  obtain ⟨⟨p0, p1, p2⟩, -⟩ := HK.out _ HBA.out
  go_wp2_with fail
  refine (HT.out wA HBA.out).mono ?_
  rintro e w5 ⟨v5, rfl, o5, b5⟩
  obtain ⟨A6, m6, rfl, -, -, x5⟩ := own_slice o5
  have HB5 := Lib.hid (And.intro (HBA.out.trans (b5.mono HBA.out.size)) (own_belowN HoA.out b5))
  have X5 := Lib.hid x5
  have HTl : Hid (T.length ≤ 1000009) := Lib.hid Hln.out.2.2
  have HFl : Hid (byteCells (numForm m) ++ byteCells (numForm s) ++ byteCells T = byteCells F ∧ (numForm m).length + (numForm s).length + T.length = F.length) := Lib.hid (by rw [HS.out, byteCells_app, byteCells_app, List.append_assoc, List.length_append, List.length_append]; exact ⟨rfl, by omega⟩)
  clear o5 b5 x5
  go_wp2_with (at_builtin; refine wpList_append_hasN rfl (.tmp 21) (.tmp 26) _ rfl 5 u8_elemN (by omega) Try.underlying76 rfl HB5.out.2 rfl (by rw [Nat.mul_one]; exact X5.out) (byteCells_one _) (by have := HTl.out; simp only [maxLen]; omega) (by have := HTl.out; omega) HB5.out.1.size ?_; intro v7 w7 o7 g7 z7; obtain ⟨A7, c7, rfl, -, -, x7⟩ := own_slice o7; rw [HFl.out.1, HFl.out.2] at x7; have hcv : (convert 76 9 (.slice A7 ((numForm m).length + (numForm s).length + T.length) c7)).run Try.prog w7 = .ok (.string ⟨F.toArray⟩) w7 := (by rw [HFl.out.2]; exact string_run (w := w7) x7 c7); have HB7 := Lib.hid (HB5.out.1.grown g7 HB5.out.1.size fun k hk => (HB5.out.2.lt k hk).1); clear o7 g7 z7 x7)
  go_wp2
  go_ret
  exact ⟨rfl, HB7.out⟩
end
end Go.Proofs.Ytaljojjpgkmiiaa

/- Package session: Save. Condition: the end is in memory; a million bytes at most. -/
import Derived.Test.YtaljojjpgkmiiaaSesA
import Derived.Test.YtaljojjpgkmiiaaWalkT
import Derived.Test.YtaljojjpgkmiiaaPakK
import Derived.Test.YtaljojjpgkmiiaaPvA
import Derived.Test.YtaljojjpgkmiiaaRegion
namespace Go.Proofs.Ytaljojjpgkmiiaa
open Go.RowKit
open Go.Lib (strCells)

/-- an end as bytes -/
def SE.save (E : SE) : List UInt8 := numForm E.m ++ (numForm E.s ++ textsForm (raw E.l))
theorem parts3 {w : World} {A3 A4 A5 : Option Addr} {n3 n4 n5 c3 c4 c5 B3 B4 B5 : Nat} {f3 f4 f5 : List UInt8} (h3 : HasBytes w B3 A3 n3 f3) (h4 : HasBytes w B4 A4 n4 f4) (h5 : HasBytes w B5 A5 n5 f5) (b3 : B3 ≤ w.heap.size) (b4 : B4 ≤ w.heap.size) (b5 : B5 ≤ w.heap.size) :
    Parts (w.alloc (.cells #[.slice A3 n3 c3, .slice A4 n4 c4, .slice A5 n5 c5] 76)) (w.heap.size + 1) (some ⟨w.heap.size, 0, none⟩) 3 [.slice A3 n3 c3, .slice A4 n4 c4, .slice A5 n5 c5] [f3, f4, f5] := by
  refine ⟨Has.lit w #[.slice A3 n3 c3, .slice A4 n4 c4, .slice A5 n5 c5] 76, rfl, fun k hk => ?_⟩
  have g3 : HasBytes (w.alloc (.cells #[.slice A3 n3 c3, .slice A4 n4 c4, .slice A5 n5 c5] 76)) (w.heap.size + 1) A3 n3 f3 := (Has.alloc h3 b3 _).more (by omega)
  have g4 : HasBytes (w.alloc (.cells #[.slice A3 n3 c3, .slice A4 n4 c4, .slice A5 n5 c5] 76)) (w.heap.size + 1) A4 n4 f4 := (Has.alloc h4 b4 _).more (by omega)
  have g5 : HasBytes (w.alloc (.cells #[.slice A3 n3 c3, .slice A4 n4 c4, .slice A5 n5 c5] 76)) (w.heap.size + 1) A5 n5 f5 := (Has.alloc h5 b5 _).more (by omega)
  match k, hk with
  | 0, _ => exact ⟨_, _, _, rfl, g3⟩
  | 1, _ => exact ⟨_, _, _, rfl, g4⟩
  | 2, _ => exact ⟨_, _, _, rfl, g5⟩
theorem save_len (E : SE) (h : E.Good) (hb : (textsBody (raw E.l)).length ≤ 1000000) : (numForm E.m).length ≤ 9 ∧ (numForm E.s).length ≤ 9 ∧ (textsForm (raw E.l)).length ≤ 1000009 := by
  refine ⟨numForm_len9 (by have := h.ml; omega), numForm_len9 (by have := h.sl; omega), ?_⟩
  have := numForm_len9 (k := (raw E.l).length) (by have := h.ll; unfold raw; rw [List.length_map]; omega)
  unfold textsForm
  rw [List.length_append]
  omega
section
variable {w : World} {B g : Nat} {v : Value} {E : SE}
set_option maxRecDepth 100000 in
set_option maxHeartbeats 6400000 in
theorem sesSave_any (h : EndAt w B g v E) (hb : (textsBody (raw E.l)).length ≤ 1000000) : Calls Try.prog 26 #[.pointer (some ⟨g, 0, none⟩)] w fun e w' => e = .returned (.string ⟨E.save.toArray⟩) ∧ Below w.heap.size w w' := by
  have Hln := Lib.hid (save_len E h.good hb)
  have Hg := Lib.hid h.good
  obtain ⟨A, c, rfl, hnc, -, hh⟩ := h.own.slice
  obtain ⟨m, hm⟩ : ∃ m : Nat, E.m = m := ⟨_, rfl⟩
  obtain ⟨s, hs⟩ : ∃ s : Nat, E.s = s := ⟨_, rfl⟩
  obtain ⟨N, hN⟩ : ∃ N, E.l.length = N := ⟨_, rfl⟩
  have hms : m < 9223372036854775808 := by have := h.good.ml; omega
  have hss : s < 9223372036854775808 := by have := h.good.sl; omega
  have Hms := Lib.hid (And.intro hms hss)
  have Hlt := Lib.hid h.lt
  have HK : Hid (∀ wx, Below w.heap.size w wx → (wx.cell? ⟨g, 0, none⟩ = some (.int .i64 m) ∧ wx.cell? ⟨g, 1, none⟩ = some (.int .i64 s) ∧ wx.cell? ⟨g, 2, none⟩ = some (.slice A N c)) ∧ Below w.heap.size w wx) := Lib.hid fun wx hx => by
    have hc := (h.below hx).cells
    rw [hm, hs, hN] at hc
    exact ⟨⟨hc.1, hc.2.1, hc.2.2.1⟩, hx⟩
  have HT : Hid (∀ wx, Below w.heap.size w wx → Calls Try.prog 66 #[.slice A N c] wx (Gives wx.heap.size (textsForm (raw E.l)).length (byteCells (textsForm (raw E.l))) wx)) := Lib.hid fun wx hx => texts_any A N c w.heap.size E.l wx (by have h9 := hh.below hx; rwa [hN] at h9) hx.size hb (by have := h.good.ll; omega)
  have HS : Hid (E.save = numForm m ++ (numForm s ++ textsForm (raw E.l))) := Lib.hid (by unfold SE.save; rw [hm, hs])
  obtain ⟨F, hF⟩ : ∃ F, E.save = F := ⟨_, rfl⟩
  obtain ⟨T, hT⟩ : ∃ T, textsForm (raw E.l) = T := ⟨_, rfl⟩
  rw [hF] at HS ⊢
  rw [hT] at HS HT Hln
  rw [hm, hs] at Hln
  obtain ⟨⟨p0, p1, p2⟩, -⟩ := HK.out w (Below.refl _ _)
  clear h hb hh hm hs hN hF hT hms hss hnc
  go_enter Try.func26, Try.ntmps26
  go_wp2
  have hS0 : (fun wx => (wx.cell? ⟨g, 0, none⟩ = some (.int .i64 m) ∧ wx.cell? ⟨g, 1, none⟩ = some (.int .i64 s) ∧ wx.cell? ⟨g, 2, none⟩ = some (.slice A N c)) ∧ Below w.heap.size w wx) w.drew := HK.out _ (Below.refl _ _).drew
  refine wp_region_held_drew (S := fun wx => (wx.cell? ⟨g, 0, none⟩ = some (.int .i64 m) ∧ wx.cell? ⟨g, 1, none⟩ = some (.int .i64 s) ∧ wx.cell? ⟨g, 2, none⟩ = some (.slice A N c)) ∧ Below w.heap.size w wx) (by kernel_rfl) hS0 (fun _ => ?_)
  refine wpAnyH_take (i := 0) (oi := ⟨some 3, _, _, _, _, _⟩) (v := .pointer (some ⟨g, 0, none⟩)) rfl (by kernel_rfl) (by kernel_rfl) (by kernel_rfl) (fun _ _ _ h => h) (Or.inl ⟨by rfl, ?_⟩) (by assumption) ?_
  · intro w hSw; (try dsimp only at hSw); go_simp
  simp only [Act.put, List.setIfInBounds_toArray, List.set_cons_zero, List.set_cons_succ]
  refine wpAnyH_take (i := 1) (oi := ⟨some 4, _, _, _, _, _⟩) (v := .pointer (some ⟨g, 0, none⟩)) rfl (by kernel_rfl) (by kernel_rfl) (by kernel_rfl) (fun _ _ _ h => h) (Or.inl ⟨by rfl, ?_⟩) (by assumption) ?_
  · intro w hSw; (try dsimp only at hSw); go_simp
  simp only [Act.put, List.setIfInBounds_toArray, List.set_cons_zero, List.set_cons_succ]
  refine wpAnyH_take (i := 2) (oi := ⟨some 5, _, _, _, _, _⟩) (v := .pointer (some ⟨g, 0, none⟩)) rfl (by kernel_rfl) (by kernel_rfl) (by kernel_rfl) (fun _ _ _ h => h) (Or.inl ⟨by rfl, ?_⟩) (by assumption) ?_
  · intro w hSw; (try dsimp only at hSw); go_simp
  simp only [Act.put, List.setIfInBounds_toArray, List.set_cons_zero, List.set_cons_succ]
  refine wpAnyH_take (i := 3) (oi := ⟨some 6, _, _, _, _, _⟩) (v := .int .i64 m) rfl (by kernel_rfl) (by kernel_rfl) (by kernel_rfl) (fun _ _ _ h => h) (Or.inl ⟨by rfl, ?_⟩) (by assumption) ?_
  · intro w hSw; (try dsimp only at hSw); go_simp
  simp only [Act.put, List.setIfInBounds_toArray, List.set_cons_zero, List.set_cons_succ]
  refine wpAnyH_take (i := 5) (oi := ⟨some 8, _, _, _, _, _⟩) (v := .pointer (some ⟨g, 0, none⟩)) rfl (by kernel_rfl) (by kernel_rfl) (by kernel_rfl) (fun _ _ _ h => h) (Or.inl ⟨by rfl, ?_⟩) (by assumption) ?_
  · intro w hSw; (try dsimp only at hSw); go_simp
  simp only [Act.put, List.setIfInBounds_toArray, List.set_cons_zero, List.set_cons_succ]
  refine wpAnyH_take (i := 6) (oi := ⟨some 9, _, _, _, _, _⟩) (v := .pointer (some ⟨g, 0, none⟩)) rfl (by kernel_rfl) (by kernel_rfl) (by kernel_rfl) (fun _ _ _ h => h) (Or.inl ⟨by rfl, ?_⟩) (by assumption) ?_
  · intro w hSw; (try dsimp only at hSw); go_simp
  simp only [Act.put, List.setIfInBounds_toArray, List.set_cons_zero, List.set_cons_succ]
  refine wpAnyH_take (i := 7) (oi := ⟨some 10, _, _, _, _, _⟩) (v := .pointer (some ⟨g, 1, none⟩)) rfl (by kernel_rfl) (by kernel_rfl) (by kernel_rfl) (fun _ _ _ h => h) (Or.inl ⟨by rfl, ?_⟩) (by assumption) ?_
  · intro w hSw; (try dsimp only at hSw); go_simp
  simp only [Act.put, List.setIfInBounds_toArray, List.set_cons_zero, List.set_cons_succ]
  refine wpAnyH_take (i := 8) (oi := ⟨some 11, _, _, _, _, _⟩) (v := .int .i64 s) rfl (by kernel_rfl) (by kernel_rfl) (by kernel_rfl) (fun _ _ _ h => h) (Or.inl ⟨by rfl, ?_⟩) (by assumption) ?_
  · intro w hSw; (try dsimp only at hSw); go_simp
  simp only [Act.put, List.setIfInBounds_toArray, List.set_cons_zero, List.set_cons_succ]
  refine wpAnyH_take (i := 10) (oi := ⟨some 13, _, _, _, _, _⟩) (v := .pointer (some ⟨g, 0, none⟩)) rfl (by kernel_rfl) (by kernel_rfl) (by kernel_rfl) (fun _ _ _ h => h) (Or.inl ⟨by rfl, ?_⟩) (by assumption) ?_
  · intro w hSw; (try dsimp only at hSw); go_simp
  simp only [Act.put, List.setIfInBounds_toArray, List.set_cons_zero, List.set_cons_succ]
  refine wpAnyH_take (i := 11) (oi := ⟨some 14, _, _, _, _, _⟩) (v := .pointer (some ⟨g, 0, none⟩)) rfl (by kernel_rfl) (by kernel_rfl) (by kernel_rfl) (fun _ _ _ h => h) (Or.inl ⟨by rfl, ?_⟩) (by assumption) ?_
  · intro w hSw; (try dsimp only at hSw); go_simp
  simp only [Act.put, List.setIfInBounds_toArray, List.set_cons_zero, List.set_cons_succ]
  refine wpAnyH_take (i := 12) (oi := ⟨some 15, _, _, _, _, _⟩) (v := .pointer (some ⟨g, 2, none⟩)) rfl (by kernel_rfl) (by kernel_rfl) (by kernel_rfl) (fun _ _ _ h => h) (Or.inl ⟨by rfl, ?_⟩) (by assumption) ?_
  · intro w hSw; (try dsimp only at hSw); go_simp
  simp only [Act.put, List.setIfInBounds_toArray, List.set_cons_zero, List.set_cons_succ]
  refine wpAnyH_take (i := 13) (oi := ⟨some 16, _, _, _, _, _⟩) (v := .slice A N c) rfl (by kernel_rfl) (by kernel_rfl) (by kernel_rfl) (fun _ _ _ h => h) (Or.inl ⟨by rfl, ?_⟩) (by assumption) ?_
  · intro w hSw; (try dsimp only at hSw); go_simp
  simp only [Act.put, List.setIfInBounds_toArray, List.set_cons_zero, List.set_cons_succ]
  refine wpAnyH_ready (rs := [4]) (by kernel_rfl) (by simp) (AllReadyH.cons (o := ⟨some 7, _, _, _, _, _⟩) rfl (fun K hK => ?_) AllReadyH.nil)
  go_simp
  refine (num_any (m : Int) _ (by have := Hms.out.1; omega)).mono ?_
  rintro e w3 ⟨v3, rfl, o3, b3⟩
  rw [if_neg (by omega), Int.toNat_natCast] at o3
  obtain ⟨A3, m3, rfl, -, -, x3⟩ := own_slice o3
  have c3 : Below w.heap.size w w3 := (Below.refl _ w).drew.trans b3
  refine hK.out _ _ (HK.out _ c3) (fun _ => ?_)
  clear hK K
  refine wpAnyH_ready (rs := [9]) (by kernel_rfl) (by simp) (AllReadyH.cons (o := ⟨some 12, _, _, _, _, _⟩) rfl (fun K hK => ?_) AllReadyH.nil)
  go_simp
  refine (num_any (s : Int) _ (by have := Hms.out.2; omega)).mono ?_
  rintro e w4 ⟨v4, rfl, o4, b4⟩
  rw [if_neg (by omega), Int.toNat_natCast] at o4
  obtain ⟨A4, m4, rfl, -, -, x4⟩ := own_slice o4
  have c4 : Below w.heap.size w w4 := below_thn c3 b4 c3.size
  refine hK.out _ _ (HK.out _ c4) (fun _ => ?_)
  clear hK K
  refine wpAnyH_ready (rs := [14]) (by kernel_rfl) (by simp) (AllReadyH.cons (o := ⟨some 17, _, _, _, _, _⟩) rfl (fun K hK => ?_) AllReadyH.nil)
  go_simp
  refine (HT.out _ c4).mono ?_
  rintro e w5 ⟨v5, rfl, o5, b5⟩
  obtain ⟨A5, m5, rfl, -, -, x5⟩ := own_slice o5
  have c5 : Below w.heap.size w w5 := below_thn c4 b5 c4.size
  have HPt := Lib.hid (parts3 (c3 := m3) (c4 := m4) (c5 := m5) (Has.below (Has.below x3 b4) (b5.mono b4.size)) (Has.below x4 b5) x5 (Nat.le_trans b4.size b5.size) b5.size (Nat.le_refl _))
  have HFl : Hid (flat [numForm m, numForm s, T] = F ∧ F.length ≤ 2000000) := Lib.hid (by
    have h9 : flat [numForm m, numForm s, T] = F := by rw [HS.out]; simp [flat]
    refine ⟨h9, ?_⟩
    have := Hln.out
    rw [HS.out, List.length_append, List.length_append]
    omega)
  clear o3 o4 o5 x3 x4 x5
  refine hK.out _ _ (HK.out _ c5) (fun _ => ?_)
  clear hK K
  refine wpAnyH_ready (rs := [15]) (by kernel_rfl) (by simp) (AllReadyH.cons (o := ⟨some 18, _, _, _, _, _⟩) rfl (fun K hK => ?_) AllReadyH.nil)
  go_simp
  refine hK.out _ _ (HK.out _ (c5.alloc c5.size _)) (fun _ => ?_)
  clear hK K
  refine wpAnyH_ready (rs := [16]) (by kernel_rfl) (by simp) (AllReadyH.cons (o := ⟨some 19, _, _, _, _, _⟩) rfl (fun K hK => ?_) AllReadyH.nil)
  go_simp
  refine (join_any _ _ _ _ _ _ _ HPt.out (by simp) (by rw [HFl.out.1]; have := HFl.out.2; omega) (by omega)).mono ?_
  rw [HFl.out.1]
  rintro e w6 ⟨v6, rfl, o6, b6⟩
  obtain ⟨A6, m6, rfl, -, -, x6⟩ := own_slice o6
  have H6 : Hid (Below w.heap.size w w6) := Lib.hid (below_thn (c5.alloc c5.size _) b6 (c5.alloc c5.size _).size)
  have HC6 := Lib.hid (string_run (w := w6) x6 m6)
  obtain ⟨NF, hNF⟩ : ∃ NF, F.length = NF := ⟨_, rfl⟩
  rw [hNF] at HC6 ⊢
  clear o6 b6 x6 hNF HPt b3 b4 b5 c3 c4 c5
  refine hK.out _ _ (HK.out _ H6.out) (fun _ => ?_)
  clear hK K
  refine held_more (S' := fun wx => ((convert 76 9 (.slice A6 NF m6)).run Try.prog wx = .ok (.string ⟨F.toArray⟩) wx) ∧ ((wx.cell? ⟨g, 0, none⟩ = some (.int .i64 m) ∧ wx.cell? ⟨g, 1, none⟩ = some (.int .i64 s) ∧ wx.cell? ⟨g, 2, none⟩ = some (.slice A N c)) ∧ Below w.heap.size w wx)) (fun _ h => h.2) _ _ _ _ ?_
  have hS6 : (fun wx => ((convert 76 9 (.slice A6 NF m6)).run Try.prog wx = .ok (.string ⟨F.toArray⟩) wx) ∧ ((wx.cell? ⟨g, 0, none⟩ = some (.int .i64 m) ∧ wx.cell? ⟨g, 1, none⟩ = some (.int .i64 s) ∧ wx.cell? ⟨g, 2, none⟩ = some (.slice A N c)) ∧ Below w.heap.size w wx)) w6 := ⟨HC6.out, HK.out _ H6.out⟩
  refine wpAnyH_take (i := 17) (oi := ⟨some 20, _, _, _, _, _⟩) (v := .string ⟨F.toArray⟩) rfl (by kernel_rfl) (by kernel_rfl) (by kernel_rfl) (fun _ _ _ h => h) (Or.inl ⟨by rfl, ?_⟩) (by assumption) ?_
  · intro w hSw; (try dsimp only at hSw); go_simp
  simp only [Act.put, List.setIfInBounds_toArray, List.set_cons_zero, List.set_cons_succ]
  refine wpAnyH_take (i := 18) (oi := ⟨some 2, _, _, _, _, _⟩) (v := .string ⟨F.toArray⟩) rfl (by kernel_rfl) (by kernel_rfl) (by kernel_rfl) (fun _ _ _ h => h) (Or.inl ⟨by rfl, ?_⟩) (by assumption) ?_
  · intro w hSw; (try dsimp only at hSw); go_simp
  simp only [Act.put, List.setIfInBounds_toArray, List.set_cons_zero, List.set_cons_succ]
  refine wpAnyH_done (by kernel_rfl) ?_ _
  go_wp2
  go_ret
  exact ⟨rfl, H6.out⟩
end
end Go.Proofs.Ytaljojjpgkmiiaa

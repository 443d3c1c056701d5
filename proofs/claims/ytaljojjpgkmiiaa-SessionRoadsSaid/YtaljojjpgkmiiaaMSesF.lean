/- Layer 15 in plain words: what a text is as an end, and back. No condition. -/
import Derived.Deep.RegionHeld3
import Derived.Test.YtaljojjpgkmiiaaMSes
import Derived.Test.YtaljojjpgkmiiaaMWalk
import Derived.BigQuiet
import Derived.Test.YtaljojjpgkmiiaaMSpec
namespace Go.Proofs.Ytaljojjpgkmiiaa
open Go

section
variable {P : Program} {ops : Array Oper} {Q : Exit → Act → World → Prop} {md : Region.Mode} {S S' : World → Prop}

/-- a condition that says more serves too -/
theorem held_more (h : ∀ w, S' w → S w) : ∀ (fuel : Nat) (listed : Array Bool) (a : Act) (w : World), wpAnyH P md ops Q S' fuel listed a w → wpAnyH P md ops Q S fuel listed a w
  | 0, _, _, _, hw => hw
  | fuel + 1, _, _, _, hw => ⟨hw.1, fun i hi => wpOp_mono (fun a' w' h' => ⟨h w' h'.1, held_more h fuel _ a' w' h'.2⟩) (hw.2 i hi)⟩
end

end Go.Proofs.Ytaljojjpgkmiiaa

namespace Go.Proofs.Ytaljojjpgkmiiaa
open Go.RowKit
open Go.Lib (strCells)

/-- an end as bytes -/
def SE.save (E : SE) : List UInt8 := numForm E.m ++ (numForm E.s ++ textsForm (raw E.l))
theorem parts3 {w : World} {A3 A4 A5 : Option Addr} {n3 n4 n5 c3 c4 c5 B3 B4 B5 : Nat} {f3 f4 f5 : List UInt8} (h3 : HasBytes w B3 A3 n3 f3) (h4 : HasBytes w B4 A4 n4 f4) (h5 : HasBytes w B5 A5 n5 f5) (b3 : B3 ≤ w.heap.size) (b4 : B4 ≤ w.heap.size) (b5 : B5 ≤ w.heap.size) :
    Parts (w.alloc (.cells #[.slice A3 n3 c3, .slice A4 n4 c4, .slice A5 n5 c5] 76)) (w.heap.size + 1) (some ⟨w.heap.size, 0, none⟩) 3 [.slice A3 n3 c3, .slice A4 n4 c4, .slice A5 n5 c5] [f3, f4, f5] := by
  refine ⟨Has.lit w #[.slice A3 n3 c3, .slice A4 n4 c4, .slice A5 n5 c5] 76, rfl, fun k hk => ?_⟩
  have g3 : HasBytes (w.alloc (.cells #[.slice A3 n3 c3, .slice A4 n4 c4, .slice A5 n5 c5] 76)) (w.heap.size + 1) A3 n3 f3 := (Has.alloc h3 b3 _).more (by omega)
  have g4 : HasBytes (w.alloc (.cells #[.slice A3 n3 c3, .slice A4 n4 c4, .slice A5 n5 c5] 76)) (w.heap.size + 1) A4 n4 f4 := (Has.alloc h4 b4 _).more (by omega)
  have g5 : HasBytes (w.alloc (.cells #[.slice A3 n3 c3, .slice A4 n4 c4, .slice A5 n5 c5] 76)) (w.heap.size + 1) A5 n5 f5 := (Has.alloc h5 b5 _).more (by omega)
  match k, hk with
  | 0, _ => exact ⟨_, _, _, rfl, g3⟩
  | 1, _ => exact ⟨_, _, _, rfl, g4⟩
  | 2, _ => exact ⟨_, _, _, rfl, g5⟩
theorem save_len (E : SE) (h : E.Good) (hb : (textsBody (raw E.l)).length ≤ 1000000) : (numForm E.m).length ≤ 9 ∧ (numForm E.s).length ≤ 9 ∧ (textsForm (raw E.l)).length ≤ 1000009 := by
  refine ⟨numForm_len9 (by have := h.ml; omega), numForm_len9 (by have := h.sl; omega), ?_⟩
  have := numForm_len9 (k := (raw E.l).length) (by have := h.ll; unfold raw; rw [List.length_map]; omega)
  unfold textsForm
  rw [List.length_append]
  omega
section
variable {w : World} {B g : Nat} {v : Value} {E : SE}
set_option maxRecDepth 100000 in
set_option maxHeartbeats 6400000 in
theorem sesSave_any (h : EndAt w B g v E) (hb : (textsBody (raw E.l)).length ≤ 1000000) : Calls Try.prog 26 #[.pointer (some ⟨g, 0, none⟩)] w fun e w' => e = .returned (.string ⟨E.save.toArray⟩) ∧ Below w.heap.size w w' := by
  have Hln := Lib.hid (save_len E h.good hb)
  have Hg := Lib.hid h.good
  obtain ⟨A, c, rfl, hnc, -, hh⟩ := h.own.slice
  obtain ⟨m, hm⟩ : ∃ m : Nat, E.m = m := ⟨_, rfl⟩
  obtain ⟨s, hs⟩ : ∃ s : Nat, E.s = s := ⟨_, rfl⟩
  obtain ⟨N, hN⟩ : ∃ N, E.l.length = N := ⟨_, rfl⟩
  have hms : m < 9223372036854775808 := by have := h.good.ml; omega
  have hss : s < 9223372036854775808 := by have := h.good.sl; omega
  have Hms := Lib.hid (And.intro hms hss)
  have Hlt := Lib.hid h.lt
  have HK : Hid (∀ wx, Below w.heap.size w wx → (wx.cell? ⟨g, 0, none⟩ = some (.int .i64 m) ∧ wx.cell? ⟨g, 1, none⟩ = some (.int .i64 s) ∧ wx.cell? ⟨g, 2, none⟩ = some (.slice A N c)) ∧ Below w.heap.size w wx) := Lib.hid fun wx hx => by
    have hc := (h.below hx).cells
    rw [hm, hs, hN] at hc
    exact ⟨⟨hc.1, hc.2.1, hc.2.2.1⟩, hx⟩
  have HT : Hid (∀ wx, Below w.heap.size w wx → Calls Try.prog 66 #[.slice A N c] wx (Gives wx.heap.size (textsForm (raw E.l)).length (byteCells (textsForm (raw E.l))) wx)) := Lib.hid fun wx hx => texts_any A N c w.heap.size E.l wx (by have h9 := hh.below hx; rwa [hN] at h9) hx.size hb (by have := h.good.ll; omega)
  have HS : Hid (E.save = numForm m ++ (numForm s ++ textsForm (raw E.l))) := Lib.hid (by unfold SE.save; rw [hm, hs])
  obtain ⟨F, hF⟩ : ∃ F, E.save = F := ⟨_, rfl⟩
  obtain ⟨T, hT⟩ : ∃ T, textsForm (raw E.l) = T := ⟨_, rfl⟩
  rw [hF] at HS ⊢
  rw [hT] at HS HT Hln
  rw [hm, hs] at Hln
  obtain ⟨⟨p0, p1, p2⟩, -⟩ := HK.out w (Below.refl _ _)
  clear h hb hh hm hs hN hF hT hms hss hnc
  go_enter Try.func26, Try.ntmps26
  go_wp2
  have hS0 : (fun wx => (wx.cell? ⟨g, 0, none⟩ = some (.int .i64 m) ∧ wx.cell? ⟨g, 1, none⟩ = some (.int .i64 s) ∧ wx.cell? ⟨g, 2, none⟩ = some (.slice A N c)) ∧ Below w.heap.size w wx) w.drew := HK.out _ (Below.refl _ _).drew
  refine wp_region_held_drew (S := fun wx => (wx.cell? ⟨g, 0, none⟩ = some (.int .i64 m) ∧ wx.cell? ⟨g, 1, none⟩ = some (.int .i64 s) ∧ wx.cell? ⟨g, 2, none⟩ = some (.slice A N c)) ∧ Below w.heap.size w wx) (by kernel_rfl) hS0 (fun _ => ?_)
  refine wpAnyH_take (i := 0) (oi := ⟨some 3, _, _, _, _, _⟩) (v := .pointer (some ⟨g, 0, none⟩)) rfl (by kernel_rfl) (by kernel_rfl) (by kernel_rfl) (fun _ _ _ h => h) (Or.inl ⟨by rfl, ?_⟩) (by assumption) ?_
  · intro w hSw; (try dsimp only at hSw); go_simp
  simp only [Act.put, List.setIfInBounds_toArray, List.set_cons_zero, List.set_cons_succ]
  refine wpAnyH_take (i := 1) (oi := ⟨some 4, _, _, _, _, _⟩) (v := .pointer (some ⟨g, 0, none⟩)) rfl (by kernel_rfl) (by kernel_rfl) (by kernel_rfl) (fun _ _ _ h => h) (Or.inl ⟨by rfl, ?_⟩) (by assumption) ?_
  · intro w hSw; (try dsimp only at hSw); go_simp
  simp only [Act.put, List.setIfInBounds_toArray, List.set_cons_zero, List.set_cons_succ]
  refine wpAnyH_take (i := 2) (oi := ⟨some 5, _, _, _, _, _⟩) (v := .pointer (some ⟨g, 0, none⟩)) rfl (by kernel_rfl) (by kernel_rfl) (by kernel_rfl) (fun _ _ _ h => h) (Or.inl ⟨by rfl, ?_⟩) (by assumption) ?_
  · intro w hSw; (try dsimp only at hSw); go_simp
  simp only [Act.put, List.setIfInBounds_toArray, List.set_cons_zero, List.set_cons_succ]
  refine wpAnyH_take (i := 3) (oi := ⟨some 6, _, _, _, _, _⟩) (v := .int .i64 m) rfl (by kernel_rfl) (by kernel_rfl) (by kernel_rfl) (fun _ _ _ h => h) (Or.inl ⟨by rfl, ?_⟩) (by assumption) ?_
  · intro w hSw; (try dsimp only at hSw); go_simp
  simp only [Act.put, List.setIfInBounds_toArray, List.set_cons_zero, List.set_cons_succ]
  refine wpAnyH_take (i := 5) (oi := ⟨some 8, _, _, _, _, _⟩) (v := .pointer (some ⟨g, 0, none⟩)) rfl (by kernel_rfl) (by kernel_rfl) (by kernel_rfl) (fun _ _ _ h => h) (Or.inl ⟨by rfl, ?_⟩) (by assumption) ?_
  · intro w hSw; (try dsimp only at hSw); go_simp
  simp only [Act.put, List.setIfInBounds_toArray, List.set_cons_zero, List.set_cons_succ]
  refine wpAnyH_take (i := 6) (oi := ⟨some 9, _, _, _, _, _⟩) (v := .pointer (some ⟨g, 0, none⟩)) rfl (by kernel_rfl) (by kernel_rfl) (by kernel_rfl) (fun _ _ _ h => h) (Or.inl ⟨by rfl, ?_⟩) (by assumption) ?_
  · intro w hSw; (try dsimp only at hSw); go_simp
  simp only [Act.put, List.setIfInBounds_toArray, List.set_cons_zero, List.set_cons_succ]
  refine wpAnyH_take (i := 7) (oi := ⟨some 10, _, _, _, _, _⟩) (v := .pointer (some ⟨g, 1, none⟩)) rfl (by kernel_rfl) (by kernel_rfl) (by kernel_rfl) (fun _ _ _ h => h) (Or.inl ⟨by rfl, ?_⟩) (by assumption) ?_
  · intro w hSw; (try dsimp only at hSw); go_simp
  simp only [Act.put, List.setIfInBounds_toArray, List.set_cons_zero, List.set_cons_succ]
  refine wpAnyH_take (i := 8) (oi := ⟨some 11, _, _, _, _, _⟩) (v := .int .i64 s) rfl (by kernel_rfl) (by kernel_rfl) (by kernel_rfl) (fun _ _ _ h => h) (Or.inl ⟨by rfl, ?_⟩) (by assumption) ?_
  · intro w hSw; (try dsimp only at hSw); go_simp
  simp only [Act.put, List.setIfInBounds_toArray, List.set_cons_zero, List.set_cons_succ]
  refine wpAnyH_take (i := 10) (oi := ⟨some 13, _, _, _, _, _⟩) (v := .pointer (some ⟨g, 0, none⟩)) rfl (by kernel_rfl) (by kernel_rfl) (by kernel_rfl) (fun _ _ _ h => h) (Or.inl ⟨by rfl, ?_⟩) (by assumption) ?_
  · intro w hSw; (try dsimp only at hSw); go_simp
  simp only [Act.put, List.setIfInBounds_toArray, List.set_cons_zero, List.set_cons_succ]
  refine wpAnyH_take (i := 11) (oi := ⟨some 14, _, _, _, _, _⟩) (v := .pointer (some ⟨g, 0, none⟩)) rfl (by kernel_rfl) (by kernel_rfl) (by kernel_rfl) (fun _ _ _ h => h) (Or.inl ⟨by rfl, ?_⟩) (by assumption) ?_
  · intro w hSw; (try dsimp only at hSw); go_simp
  simp only [Act.put, List.setIfInBounds_toArray, List.set_cons_zero, List.set_cons_succ]
  refine wpAnyH_take (i := 12) (oi := ⟨some 15, _, _, _, _, _⟩) (v := .pointer (some ⟨g, 2, none⟩)) rfl (by kernel_rfl) (by kernel_rfl) (by kernel_rfl) (fun _ _ _ h => h) (Or.inl ⟨by rfl, ?_⟩) (by assumption) ?_
  · intro w hSw; (try dsimp only at hSw); go_simp
  simp only [Act.put, List.setIfInBounds_toArray, List.set_cons_zero, List.set_cons_succ]
  refine wpAnyH_take (i := 13) (oi := ⟨some 16, _, _, _, _, _⟩) (v := .slice A N c) rfl (by kernel_rfl) (by kernel_rfl) (by kernel_rfl) (fun _ _ _ h => h) (Or.inl ⟨by rfl, ?_⟩) (by assumption) ?_
  · intro w hSw; (try dsimp only at hSw); go_simp
  simp only [Act.put, List.setIfInBounds_toArray, List.set_cons_zero, List.set_cons_succ]
  refine wpAnyH_ready (rs := [4]) (by kernel_rfl) (by simp) (AllReadyH.cons (o := ⟨some 7, _, _, _, _, _⟩) rfl (fun K hK => ?_) AllReadyH.nil)
  go_simp
  refine (num_any (m : Int) _ (by have := Hms.out.1; omega)).mono ?_
  rintro e w3 ⟨v3, rfl, o3, b3⟩
  rw [if_neg (by omega), Int.toNat_natCast] at o3
  obtain ⟨A3, m3, rfl, -, -, x3⟩ := own_slice o3
  have c3 : Below w.heap.size w w3 := (Below.refl _ w).drew.trans b3
  refine hK.out _ _ (HK.out _ c3) (fun _ => ?_)
  clear hK K
  refine wpAnyH_ready (rs := [9]) (by kernel_rfl) (by simp) (AllReadyH.cons (o := ⟨some 12, _, _, _, _, _⟩) rfl (fun K hK => ?_) AllReadyH.nil)
  go_simp
  refine (num_any (s : Int) _ (by have := Hms.out.2; omega)).mono ?_
  rintro e w4 ⟨v4, rfl, o4, b4⟩
  rw [if_neg (by omega), Int.toNat_natCast] at o4
  obtain ⟨A4, m4, rfl, -, -, x4⟩ := own_slice o4
  have c4 : Below w.heap.size w w4 := below_thn c3 b4 c3.size
  refine hK.out _ _ (HK.out _ c4) (fun _ => ?_)
  clear hK K
  refine wpAnyH_ready (rs := [14]) (by kernel_rfl) (by simp) (AllReadyH.cons (o := ⟨some 17, _, _, _, _, _⟩) rfl (fun K hK => ?_) AllReadyH.nil)
  go_simp
  refine (HT.out _ c4).mono ?_
  rintro e w5 ⟨v5, rfl, o5, b5⟩
  obtain ⟨A5, m5, rfl, -, -, x5⟩ := own_slice o5
  have c5 : Below w.heap.size w w5 := below_thn c4 b5 c4.size
  have HPt := Lib.hid (parts3 (c3 := m3) (c4 := m4) (c5 := m5) (Has.below (Has.below x3 b4) (b5.mono b4.size)) (Has.below x4 b5) x5 (Nat.le_trans b4.size b5.size) b5.size (Nat.le_refl _))
  have HFl : Hid (flat [numForm m, numForm s, T] = F ∧ F.length ≤ 2000000) := Lib.hid (by
    have h9 : flat [numForm m, numForm s, T] = F := by rw [HS.out]; simp [flat]
    refine ⟨h9, ?_⟩
    have := Hln.out
    rw [HS.out, List.length_append, List.length_append]
    omega)
  clear o3 o4 o5 x3 x4 x5
  refine hK.out _ _ (HK.out _ c5) (fun _ => ?_)
  clear hK K
  refine wpAnyH_ready (rs := [15]) (by kernel_rfl) (by simp) (AllReadyH.cons (o := ⟨some 18, _, _, _, _, _⟩) rfl (fun K hK => ?_) AllReadyH.nil)
  go_simp
  refine hK.out _ _ (HK.out _ (c5.alloc c5.size _)) (fun _ => ?_)
  clear hK K
  refine wpAnyH_ready (rs := [16]) (by kernel_rfl) (by simp) (AllReadyH.cons (o := ⟨some 19, _, _, _, _, _⟩) rfl (fun K hK => ?_) AllReadyH.nil)
  go_simp
  refine (join_any _ _ _ _ _ _ _ HPt.out (by simp) (by rw [HFl.out.1]; have := HFl.out.2; omega) (by omega)).mono ?_
  rw [HFl.out.1]
  rintro e w6 ⟨v6, rfl, o6, b6⟩
  obtain ⟨A6, m6, rfl, -, -, x6⟩ := own_slice o6
  have H6 : Hid (Below w.heap.size w w6) := Lib.hid (below_thn (c5.alloc c5.size _) b6 (c5.alloc c5.size _).size)
  have HC6 := Lib.hid (string_run (w := w6) x6 m6)
  obtain ⟨NF, hNF⟩ : ∃ NF, F.length = NF := ⟨_, rfl⟩
  rw [hNF] at HC6 ⊢
  clear o6 b6 x6 hNF HPt b3 b4 b5 c3 c4 c5
  refine hK.out _ _ (HK.out _ H6.out) (fun _ => ?_)
  clear hK K
  refine held_more (S' := fun wx => ((convert 76 9 (.slice A6 NF m6)).run Try.prog wx = .ok (.string ⟨F.toArray⟩) wx) ∧ ((wx.cell? ⟨g, 0, none⟩ = some (.int .i64 m) ∧ wx.cell? ⟨g, 1, none⟩ = some (.int .i64 s) ∧ wx.cell? ⟨g, 2, none⟩ = some (.slice A N c)) ∧ Below w.heap.size w wx)) (fun _ h => h.2) _ _ _ _ ?_
  have hS6 : (fun wx => ((convert 76 9 (.slice A6 NF m6)).run Try.prog wx = .ok (.string ⟨F.toArray⟩) wx) ∧ ((wx.cell? ⟨g, 0, none⟩ = some (.int .i64 m) ∧ wx.cell? ⟨g, 1, none⟩ = some (.int .i64 s) ∧ wx.cell? ⟨g, 2, none⟩ = some (.slice A N c)) ∧ Below w.heap.size w wx)) w6 := ⟨HC6.out, HK.out _ H6.out⟩
  refine wpAnyH_take (i := 17) (oi := ⟨some 20, _, _, _, _, _⟩) (v := .string ⟨F.toArray⟩) rfl (by kernel_rfl) (by kernel_rfl) (by kernel_rfl) (fun _ _ _ h => h) (Or.inl ⟨by rfl, ?_⟩) (by assumption) ?_
  · intro w hSw; (try dsimp only at hSw); go_simp
  simp only [Act.put, List.setIfInBounds_toArray, List.set_cons_zero, List.set_cons_succ]
  refine wpAnyH_take (i := 18) (oi := ⟨some 2, _, _, _, _, _⟩) (v := .string ⟨F.toArray⟩) rfl (by kernel_rfl) (by kernel_rfl) (by kernel_rfl) (fun _ _ _ h => h) (Or.inl ⟨by rfl, ?_⟩) (by assumption) ?_
  · intro w hSw; (try dsimp only at hSw); go_simp
  simp only [Act.put, List.setIfInBounds_toArray, List.set_cons_zero, List.set_cons_succ]
  refine wpAnyH_done (by kernel_rfl) ?_ _
  go_wp2
  go_ret
  exact ⟨rfl, H6.out⟩
end
end Go.Proofs.Ytaljojjpgkmiiaa

namespace Go.Proofs.Ytaljojjpgkmiiaa
open Go.RowKit

section
variable {w w' : World} {B g : Nat} {v : Value} {E : SE}
theorem own_typeS {w : World} {B m size : Nat} {e : TypeId} {v : Value} {xs : List Value} (h : w.ownsRow B e size v m xs) {g : Nat} (hg : v.ownBlock = some g) : ∃ cur : Array Value, w.heap[g]? = some (Obj.cells cur e (0, 0)) := by
  rcases h.2 with ⟨rfl, _⟩ | ⟨g', cap, cur, rfl, hB, hh, rest⟩
  · cases hg
  · cases hg; exact ⟨cur, hh⟩
/-- rows of elements of other types are in other blocks -/
theorem own_types_ne {w : World} {B B' m m' size size' : Nat} {e e' : TypeId} {v v' : Value} {xs xs' : List Value} (h : w.ownsRow B e size v m xs) (h' : w.ownsRow B' e' size' v' m' xs') (hne : e ≠ e') : ∀ i, v'.ownBlock = some i → v.ownBlock ≠ some i := by
  intro i hi e0
  obtain ⟨c1, h1⟩ := own_typeS h e0
  obtain ⟨c2, h2⟩ := own_typeS h' hi
  rw [h1] at h2
  injection h2 with h2
  injection h2 with _ h2 _
  exact hne h2
/-- a row that is none of the end's stays -/
theorem EndAt.rowKept (h : EndAt w B g v E) (k : KeptE g v w w') {C m size : Nat} {e : TypeId} {u : Value} {xs : List Value} (ho : w.ownsRow C e size u m xs) (h1 : e ≠ 107) (h2 : 9 ≠ e) : w'.ownsRow C e size u m xs :=
  own_keepN ho fun i hi => k.block i (ho.lt i hi).2 (own_no_box ho h.box h1 i hi) (own_types_ne h.own ho h2 i hi)
theorem one_item {c : Nat} {gi : Nat} {x : SIt} {C : Nat} (h : w.ownsRow C 105 2 (.slice (some ⟨gi, 0, none⟩) 1 c) 1 (siCells [x])) : w.cell? ⟨gi, 0, none⟩ = some (.int .i64 x.n) ∧ w.cell? ⟨gi, 1, none⟩ = some (.string x.b) :=
  ⟨h.cellAt 0 (by omega), h.cellAt 1 (by omega)⟩
end
set_option maxRecDepth 100000 in
set_option maxHeartbeats 12800000 in
theorem awake15_any (w : World) : Calls Try.prog 15 #[] w fun e w' => e = .returned (.bool true) ∧ Below w.heap.size w w' := by
  have t1 : SE.send ⟨0, 0, []⟩ ⟨#[97]⟩ = (⟨0, 1, [⟨#[97]⟩]⟩, 1, 0) := by rfl
  have t2 : SE.send ⟨0, 1, [⟨#[97]⟩]⟩ ⟨#[98]⟩ = (⟨0, 2, [⟨#[97]⟩, ⟨#[98]⟩]⟩, 2, 0) := by rfl
  have t3 : SE.post ⟨0, 2, [⟨#[97]⟩, ⟨#[98]⟩]⟩ 1 = [⟨1, ⟨#[97]⟩⟩] := by rfl
  have t4 : SE.take ⟨0, 2, [⟨#[97]⟩, ⟨#[98]⟩]⟩ 2 = (⟨0, 2, [⟨#[97]⟩, ⟨#[98]⟩]⟩, false) := by rfl
  have t5 : SE.take ⟨0, 2, [⟨#[97]⟩, ⟨#[98]⟩]⟩ 1 = (⟨1, 2, [⟨#[97]⟩, ⟨#[98]⟩]⟩, true) := by rfl
  have t6 : SE.acked ⟨1, 2, [⟨#[97]⟩, ⟨#[98]⟩]⟩ 1 = (⟨1, 2, [⟨#[98]⟩]⟩, 1) := by rfl
  have t7 : SE.save ⟨1, 2, [⟨#[98]⟩]⟩ = [1, 2, 1, 1, 98] := by decide +kernel
  have T1 := Lib.hid t1
  have T2 := Lib.hid t2
  have T3 := Lib.hid t3
  have T4 := Lib.hid t4
  have T5 := Lib.hid t5
  have T6 := Lib.hid t6
  have T7 := Lib.hid t7
  clear t1 t2 t3 t4 t5 t6 t7
  go_enter Try.func15, Try.ntmps15
  go_wp2_with fail
  refine (sesNew_any w).mono ?_
  rintro e w1 ⟨g, rfl, h1, b1⟩
  have H1 := Lib.hid (And.intro h1 b1)
  clear h1 b1
  go_wp2_with fail
  refine (sesSend_any H1.out.1 H1.out.2.size ⟨#[97]⟩).mono ?_
  unfold SendEP
  rw [T1.out]
  rintro e w2 ⟨v2, rfl, h2, k2, -⟩
  have H2 := Lib.hid (And.intro h2 (H1.out.2.trans (H1.out.1.kept k2 H1.out.2.size)))
  clear h2 k2
  go_wp2_with fail
  refine (sesSend_any H2.out.1 H2.out.2.size ⟨#[98]⟩).mono ?_
  unfold SendEP
  rw [T2.out]
  rintro e w3 ⟨v3, rfl, h3, k3, -⟩
  have H3 := Lib.hid (And.intro h3 (H2.out.2.trans (H2.out.1.kept k3 H2.out.2.size)))
  clear h3 k3
  go_wp2_with fail
  refine (sesPost_any H3.out.1 1).mono ?_
  rw [T3.out]
  rintro e w4 ⟨v4, rfl, o4, b4⟩
  obtain ⟨A4, ci, rfl, -, -, -⟩ := o4.slice
  obtain ⟨gi, rfl, -⟩ := own_head o4 (by simp)
  have Hi4 : Hid (w4.ownsRow w3.heap.size 105 2 (.slice (some ⟨gi, 0, none⟩) 1 ci) 1 (siCells [⟨1, ⟨#[97]⟩⟩])) := Lib.hid o4
  have HD : Hid (EndAt w4 w.heap.size g v3 ⟨0, 2, [⟨#[97]⟩, ⟨#[98]⟩]⟩ ∧ Below w.heap.size w w4) := Lib.hid ⟨H3.out.1.below b4, H3.out.2.trans (b4.mono H3.out.2.size)⟩
  obtain ⟨c0, c1⟩ := one_item Hi4.out
  clear o4 b4
  simp only [List.length_cons, List.length_nil]
  go_wp2_with fail
  refine (sesTake_any HD.out.1 2 ⟨#[120]⟩).mono ?_
  rw [T4.out]
  rintro e w5 ⟨rfl, h5, k5⟩
  have H5 := Lib.hid (And.intro h5 (HD.out.2.trans (HD.out.1.kept k5 HD.out.2.size)))
  clear h5 k5 c0 c1
  go_wp2_with fail
  refine (sesTake_any H5.out.1 1 ⟨#[121]⟩).mono ?_
  rw [T5.out]
  rintro e w6 ⟨rfl, h6, k6⟩
  have H6 := Lib.hid (And.intro h6 (H5.out.2.trans (H5.out.1.kept k6 H5.out.2.size)))
  clear h6 k6
  go_wp2_with fail
  refine (sesAcked_any H6.out.1 1).mono ?_
  unfold AckP
  rw [T6.out]
  rintro e w7 ⟨v7, rfl, h7, k7, -⟩
  have H7 := Lib.hid (And.intro h7 (H6.out.2.trans (H6.out.1.kept k7 H6.out.2.size)))
  clear h7 k7
  go_wp2_with fail
  refine (sesSave_any H7.out.1 (by decide +kernel)).mono ?_
  rw [T7.out]
  rintro e w8 ⟨rfl, b8⟩
  have H8 := Lib.hid (H7.out.2.trans (b8.mono H7.out.2.size))
  clear b8
  go_wp2
  go_ret
  exact ⟨rfl, H8.out⟩
end Go.Proofs.Ytaljojjpgkmiiaa

namespace Go.Proofs.Ytaljojjpgkmiiaa
open Go.RowKit

/-- The pointer to block g is the document's end E: the texts that wait lie in v's row. -/
structure RefAt (w : World) (B g : Nat) (v : Value) (E : SE) : Prop where
  gB : B ≤ g
  box : Box w g 29 #[.int .i64 E.m, .int .i64 (E.s - E.l.length : Nat), v]
  own : OwnTx w B v E.l
  good : E.Good
theorem below_nq (w : World) (k : Nat) : Below w.heap.size w (w.drewN k) := ⟨rfl, rfl, rfl, Nat.le_refl _, fun _ _ => rfl⟩
section
variable {w w' : World} {B B' g : Nat} {v : Value} {E : SE}
theorem RefAt.lt (h : RefAt w B g v E) : g < w.heap.size := h.box.lt
theorem RefAt.below (h : RefAt w B g v E) (hb : Below w.heap.size w w') : RefAt w' B g v E := ⟨h.gB, h.box.below hb h.box.lt, h.own.below hb, h.good⟩
theorem RefAt.base (h : RefAt w B g v E) (hB : B' ≤ B) : RefAt w B' g v E := ⟨Nat.le_trans hB h.gB, h.box, h.own.base hB, h.good⟩
theorem RefAt.keep (h : RefAt w B g v E) (hg : w'.heap[g]? = w.heap[g]?) (hv : ∀ i, v.ownBlock = some i → w'.heap[i]? = w.heap[i]?) : RefAt w' B g v E := ⟨h.gB, hg.trans h.box, own_keepN h.own hv, h.good⟩
theorem RefAt.apart (h : RefAt w B g v E) : v.ownBlock ≠ some g := fun e => own_no_box h.own h.box (by decide) g e rfl
theorem RefAt.kept (h : RefAt w B g v E) (k : KeptE g v w w') (hB : B ≤ w.heap.size) : Below B w w' := k.below h.gB (fun i e => (h.own.lt i e).1) hB
theorem RefAt.rowKept (h : RefAt w B g v E) (k : KeptE g v w w') {C m size : Nat} {e : TypeId} {u : Value} {xs : List Value} (ho : w.ownsRow C e size u m xs) (h1 : e ≠ 29) (h2 : 9 ≠ e) : w'.ownsRow C e size u m xs :=
  own_keepN ho fun i hi => k.block i (ho.lt i hi).2 (own_no_box ho h.box h1 i hi) (own_types_ne h.own ho h2 i hi)
/-- what the document's Post answers: texts in a row, and the number of the first -/
def RPostP (E : SE) (n : Int) (w : World) (e : Ending) (w' : World) : Prop :=
  ∃ (A : Option Addr) (c f : Nat), e = .returned (.tuple #[.slice A (E.post n).length c, .int .i64 (f : Int)]) ∧ (E.post n).length ≤ c ∧ HasTexts w' w.heap.size A (E.post n).length (E.l.take n.toNat) ∧ E.post n = itemsFrom f (E.l.take n.toNat) ∧ f ≤ 1099511627777 ∧ Below w.heap.size w w'
theorem refPost_any (h : RefAt w B g v E) (n : Int) : Calls Try.prog 19 #[.pointer (some ⟨g, 0, none⟩), .int .i64 n] w (RPostP E n w) := by
  obtain ⟨D, hD⟩ : ∃ D : Nat, E.s - E.l.length = D := ⟨_, rfl⟩
  have hbx := h.box
  rw [hD] at hbx
  have c1 : w.cell? ⟨g, 1, none⟩ = some (.int .i64 D) := hbx.cell 1
  have c2 : w.cell? ⟨g, 2, none⟩ = some v := hbx.cell 2
  have HP : Hid (E.post n = itemsFrom (D + 1) (E.l.take n.toNat) ∧ (E.post n).length = (E.l.take n.toNat).length) := Lib.hid (by unfold SE.post; rw [hD]; exact ⟨rfl, itemsFrom_len _ _⟩)
  have hD9 : D ≤ 1099511627776 := by have := h.good.sl; omega
  obtain ⟨A, c, rfl, hnc, -, hh⟩ := h.own.slice
  obtain ⟨N, hN⟩ : ∃ N, E.l.length = N := ⟨_, rfl⟩
  have HN := Lib.hid hN
  rw [hN] at c2 hnc hh
  have hll := h.good.ll
  rw [hN] at hll
  have HH := Lib.hid hh
  have hw1 : IntKind.i64.wrap ((D : Int) + 1) = ((D + 1 : Nat) : Int) := IntWalk.i64_in _ (by omega)
  clear h hbx hD hN hh
  by_cases h1 : n < 1
  · have HE : Hid (E.post n = []) := Lib.hid (by rw [HP.out.1, show n.toNat = 0 from by omega]; rfl)
    go_enter Try.func19, Try.ntmps19
    go_wp2
    go_ret2
    unfold RPostP
    rw [HE.out, show n.toNat = 0 from by omega]
    exact ⟨_, _, 0, rfl, by simp, Has.nil _ _ _, rfl, by omega, Below.refl _ _⟩
  · obtain ⟨q, rfl⟩ : ∃ q : Nat, n = q := ⟨n.toNat, by omega⟩
    simp only [Int.toNat_natCast] at HP
    by_cases h2 : N < q
    · have e2 : (N : Int) < (q : Int) := by omega
      have HL : Hid ((E.post (q : Int)).length = N ∧ E.l.take q = E.l) := Lib.hid (by
        have h9 : E.l.take q = E.l := List.take_of_length_le (by have := HN.out; omega)
        exact ⟨by rw [HP.out.2, h9, HN.out], h9⟩)
      clear h2
      go_enter Try.func19, Try.ntmps19
      go_wp2
      go_quiet (fail)
      go_wp2
      go_ret2
      unfold RPostP
      simp only [Int.toNat_natCast]
      rw [HL.out.1]
      exact ⟨A, c, D + 1, rfl, hnc, by rw [HL.out.2]; exact HH.out.below (below_nq w _), HP.out.1, by omega, below_nq w _⟩
    · have e2 : ¬ (N : Int) < (q : Int) := by omega
      have HL : Hid ((E.post (q : Int)).length = q) := Lib.hid (by rw [HP.out.2, List.length_take]; have := HN.out; omega)
      have hqc : q ≤ c := by omega
      have hqN : q ≤ N := by omega
      clear h2
      go_enter Try.func19, Try.ntmps19
      go_wp2
      go_quiet (fail)
      go_wp2
      go_ret2
      unfold RPostP
      simp only [Int.toNat_natCast]
      rw [HL.out]
      exact ⟨A, c, D + 1, rfl, hqc, by have h9 := (HH.out.below (below_nq w nq)).take hqN; rw [← List.map_take] at h9; exact h9, HP.out.1, by omega, below_nq w _⟩
end
set_option maxRecDepth 100000 in
set_option maxHeartbeats 1600000 in
theorem same15_any (Ai At : Option Addr) (N ci ct C C' f : Nat) (K : List ByteArray) (w : World) (hi : HasSis w C Ai N (itemsFrom f K)) (ht : HasTexts w C' At N K) (hf : f + N ≤ 4611686018427387904) :
    Calls Try.prog 20 #[.slice Ai N ci, .slice At N ct, .int .i64 (f : Int)] w fun e w' => e = .returned (.bool true) ∧ Below w.heap.size w w' := by
  have Hi := Lib.hid hi
  have Ht := Lib.hid ht
  have HK : Hid (K.length = N) := Lib.hid ht.len
  clear hi ht
  go_enter Try.func20, Try.ntmps20
  go_wp2
  go_loopw [7] (fun i wr => ∃ k : Nat, k ≤ N ∧ i = .int .i64 (k : Int) ∧ Hid (Below w.heap.size w wr ∧ HasSis wr C Ai N (itemsFrom f K) ∧ HasTexts wr C' At N K)) (fun i _ => N - (intOf i).toNat)
  case atStart => exact ⟨0, by omega, rfl, Lib.hid ⟨Below.refl _ _, Hi.out, Ht.out⟩⟩
  case round =>
    obtain ⟨k, hk, rfl, HR⟩ := hrel
    by_cases hlt : k < N
    · obtain ⟨a, p, rfl, -, hp, p0, p1⟩ := HR.out.2.1.at_ hlt
      obtain ⟨b, rfl, -, q0⟩ := HR.out.2.2.text hlt
      rw [itemsFrom_at] at hp
      obtain ⟨x, hx⟩ : ∃ x, K[k]? = some x := ⟨_, List.getElem?_eq_getElem (by have := HK.out; omega)⟩
      rw [hx] at hp
      simp only [Option.map_some, Option.some.injEq] at hp
      subst hp
      simp only [List.getD_eq_getElem?_getD, hx, Option.getD_some] at q0
      simp only at p0 p1
      have hw1 : IntKind.i64.wrap (((f + k : Nat) : Int) - (k : Int)) = (f : Int) := by rw [show ((f + k : Nat) : Int) - (k : Int) = (f : Int) from by omega]; exact IntWalk.i64_in _ (by omega)
      have HQ : Hid (∀ n, Below w.heap.size w (wr.drewN n) ∧ HasSis (wr.drewN n) C (some a) N (itemsFrom f K) ∧ HasTexts (wr.drewN n) C' (some b) N K) := Lib.hid fun n => ⟨HR.out.1.trans ((below_nq wr n).mono HR.out.1.size), HR.out.2.1.keep fun _ _ => rfl, HR.out.2.2.keep fun _ _ => rfl⟩
      clear hx
      go_wp2
      go_quiet (fail)
      go_wp2
      go_roundw
      case rel => exact ⟨k + 1, by omega, by go_num, Lib.hid (HQ.out _)⟩
      case measure => simp [intOf]; omega
    · go_wp2
      go_ret
      exact ⟨rfl, HR.out.1⟩
end Go.Proofs.Ytaljojjpgkmiiaa

namespace Go.Proofs.Ytaljojjpgkmiiaa

def txOf (x : List UInt8) : ByteArray := ⟨x.toArray⟩
theorem raw_txOf (L : List (List UInt8)) : raw (L.map txOf) = L := by
  unfold raw
  rw [List.map_map]
  exact (List.map_congr_left fun x _ => rfl).trans (List.map_id L)
theorem txOf_raw (l : List ByteArray) : (raw l).map txOf = l := by
  unfold raw
  rw [List.map_map]
  exact (List.map_congr_left fun x _ => rfl).trans (List.map_id l)
theorem strVals_txOf (L : List (List UInt8)) : (L.map txOf).map Value.string = strVals L := by
  rw [List.map_map]
  rfl
/-- the end that a row of bytes is, and the first error -/
def loadT (b : List UInt8) : SE × Nat :=
  if (getNum b 0).2.2 ≠ 0 then (⟨0, 0, []⟩, (getNum b 0).2.2)
  else if (getNum b ((getNum b 0).2.1 : Nat)).2.2 ≠ 0 then (⟨0, 0, []⟩, (getNum b ((getNum b 0).2.1 : Nat)).2.2)
  else if 1099511627776 < (getNum b 0).1 ∨ 1099511627776 < (getNum b ((getNum b 0).2.1 : Nat)).1 then (⟨0, 0, []⟩, 3)
  else if (getTexts b ((getNum b ((getNum b 0).2.1 : Nat)).2.1 : Nat) 256 65536).2.2 ≠ 0 then (⟨0, 0, []⟩, (getTexts b ((getNum b ((getNum b 0).2.1 : Nat)).2.1 : Nat) 256 65536).2.2)
  else if (getNum b ((getNum b 0).2.1 : Nat)).1 < (getTexts b ((getNum b ((getNum b 0).2.1 : Nat)).2.1 : Nat) 256 65536).1.length ∨ (getTexts b ((getNum b ((getNum b 0).2.1 : Nat)).2.1 : Nat) 256 65536).2.1 < b.length then (⟨0, 0, []⟩, 3)
  else (⟨(getNum b 0).1, (getNum b ((getNum b 0).2.1 : Nat)).1, (getTexts b ((getNum b ((getNum b 0).2.1 : Nat)).2.1 : Nat) 256 65536).1.map txOf⟩, 0)
theorem getTextsFrom_most (l : List UInt8) (most : Int) : ∀ (m p : Nat), (getTextsFrom l most m p).2.2 = 0 → (getTextsFrom l most m p).1.length = m ∧ ∀ x ∈ (getTextsFrom l most m p).1, (x.length : Int) ≤ most
  | 0, p, _ => by simp [getTextsFrom]
  | m + 1, p, h => by
    unfold getTextsFrom at h ⊢
    simp only at h ⊢
    split at h
    · next h1 => exact absurd h h1
    · next h1 =>
      rw [if_neg h1]
      split at h
      · next h2 => exact absurd h h2
      · next h2 =>
        rw [if_neg h2]
        obtain ⟨i1, i2⟩ := getTextsFrom_most l most m (getText l p most).2.1 (by omega)
        refine ⟨by simp [i1], fun x hx => ?_⟩
        simp only [List.mem_cons] at hx
        rcases hx with rfl | hx
        · have h3 : (getText l p most).2.2 = 0 := by omega
          revert h3
          unfold getText
          simp only
          split
          · next h4 => intro h5; exact absurd h5 h4
          · split
            · intro h5; cases h5
            · next h6 =>
              split
              · intro h5; cases h5
              · intro _
                rw [List.length_take]
                omega
        · exact i2 x hx
theorem getTexts_most {l : List UInt8} {p count most : Int} (h : (getTexts l p count most).2.2 = 0) : ((getTexts l p count most).1.length : Int) ≤ count ∧ ∀ x ∈ (getTexts l p count most).1, (x.length : Int) ≤ most := by
  unfold getTexts at h ⊢
  simp only at h ⊢
  split at h
  · next h1 => exact absurd h h1
  · next h1 =>
    rw [if_neg h1]
    split at h
    · cases h
    · next h2 =>
      rw [if_neg h2]
      obtain ⟨h3, h4⟩ := getTextsFrom_most l most _ _ h
      exact ⟨by omega, h4⟩
theorem loadT_good {b : List UInt8} (h : (loadT b).2 = 0) : (loadT b).1.Good := by
  unfold loadT at h ⊢
  split at h
  · next h1 => exact absurd h h1
  · next h1 =>
    rw [if_neg h1]
    split at h
    · next h2 => exact absurd h h2
    · next h2 =>
      rw [if_neg h2]
      split at h
      · cases h
      · next h3 =>
        rw [if_neg h3]
        split at h
        · next h4 => exact absurd h h4
        · next h4 =>
          rw [if_neg h4]
          split at h
          · cases h
          · next h5 =>
            rw [if_neg h5]
            obtain ⟨h6, h7⟩ := getTexts_most (l := b) (p := ((getNum b ((getNum b 0).2.1 : Nat)).2.1 : Nat)) (count := 256) (most := 65536) (by omega)
            refine ⟨by simp only; omega, by simp only; omega, by simp only [List.length_map]; omega, by simp only [List.length_map]; omega, fun x hx => ?_⟩
            obtain ⟨y, hy, rfl⟩ := List.mem_map.1 hx
            have := h7 y hy
            show (y.toArray).size ≤ 65536
            simp
            omega
theorem loadT_save {E : SE} (h : E.Good) : loadT E.save = (E, 0) := by
  have hb : E.save = numForm E.m ++ (numForm E.s ++ textsForm (raw E.l)) := rfl
  have e1 : getNum E.save 0 = (E.m, (numForm E.m).length, 0) := by
    have h1 := getNum_put (l := E.save) (more := numForm E.s ++ textsForm (raw E.l)) (n := E.m) (p := 0) (by have := h.ml; omega) (by omega) hb
    rw [Nat.zero_add] at h1
    exact h1
  have d1 : E.save.drop (numForm E.m).length = numForm E.s ++ textsForm (raw E.l) := by rw [hb]; exact List.drop_left
  have hl : E.save.length = (numForm E.m).length + ((numForm E.s).length + (textsForm (raw E.l)).length) := by rw [hb, List.length_append, List.length_append]
  have e2 : getNum E.save ((numForm E.m).length : Nat) = (E.s, (numForm E.m).length + (numForm E.s).length, 0) := getNum_put (by have := h.sl; omega) (by omega) d1
  have d2 : E.save.drop ((numForm E.m).length + (numForm E.s).length) = textsForm (raw E.l) ++ [] := by rw [List.append_nil]; exact drop_more d1
  have e3 : getTexts E.save ((numForm E.m).length + (numForm E.s).length : Nat) 256 65536 = (raw E.l, (numForm E.m).length + (numForm E.s).length + (textsForm (raw E.l)).length, 0) := by
    refine getTexts_put (fun s hs => ?_) ?_ ?_ (by omega) d2
    · obtain ⟨x, hx, rfl⟩ := List.mem_map.1 hs
      have h1 := h.tx x hx
      have h2 : x.data.toList.length = x.size := (Lib.size_eq x).symm
      omega
    · have := h.ll; unfold raw; rw [List.length_map]; omega
    · have := h.ll; unfold raw; rw [List.length_map]; omega
  unfold loadT
  rw [e1]
  simp only
  rw [e2]
  simp only
  rw [e3]
  simp only
  have h1 := h.ml
  have h2 := h.sl
  have h3 := h.le
  have h4 : (raw E.l).length = E.l.length := by unfold raw; rw [List.length_map]
  rw [if_neg (by simp), if_neg (by simp), if_neg (by omega), if_neg (by simp), if_neg (by omega), txOf_raw]
theorem loadT_back {b : List UInt8} (h : (loadT b).2 = 0) : (loadT b).1.save = b := by
  unfold loadT at h ⊢
  split at h
  · next h1 => exact absurd h h1
  · next h1 =>
    rw [if_neg h1]
    split at h
    · next h2 => exact absurd h h2
    · next h2 =>
      rw [if_neg h2]
      split at h
      · cases h
      · next h3 =>
        rw [if_neg h3]
        split at h
        · next h4 => exact absurd h h4
        · next h4 =>
          rw [if_neg h4]
          split at h
          · cases h
          · next h5 =>
            rw [if_neg h5]
            have a1 := getNum_one (l := b) (p := 0) (by omega)
            have b1 := getNum_bound (l := b) (p := 0) (by omega)
            have a2 := getNum_one (l := b) (p := ((getNum b 0).2.1 : Nat)) (by omega)
            have b2 := getNum_bound (l := b) (p := ((getNum b 0).2.1 : Nat)) (by omega)
            obtain ⟨-, b3, b4, a3⟩ := getTexts_one (l := b) (p := ((getNum b ((getNum b 0).2.1 : Nat)).2.1 : Nat)) (count := 256) (most := 65536) (by omega)
            unfold SE.save
            simp only
            rw [raw_txOf, a1, a2, a3]
            simp only [Int.toNat_natCast, Int.toNat_zero]
            rw [take_join b (by omega) (by omega), take_join b (by omega) (by omega), Nat.sub_zero, List.drop_zero]
            exact List.take_of_length_le (by omega)
end Go.Proofs.Ytaljojjpgkmiiaa

/- CheckIndex of the program gives what the plain text (SpecRec) gives. Condition: the numbers are in memory. -/
import Derived.Test.YtknfjajmnlpfjaaGreatRecB
import Derived.Deep.RegionHeld3
namespace Go.Proofs.YtknfjajmnlpfjaaGreat
open Go.RowKit
open Go.Lib (strCells compareBytes)

/-- an index as an argument -/
def iagg (id : Int) (A : Option Addr) (n c : Nat) : Value := .agg #[.int .i64 id, .slice A n c]
theorem box2 {w wx : World} {x y : Value} {t : TypeId} (h : Below (w.alloc (.cells #[x, y] t)).heap.size (w.alloc (.cells #[x, y] t)) wx) : wx.cell? ⟨w.heap.size, 0, none⟩ = some x ∧ wx.cell? ⟨w.heap.size, 1, none⟩ = some y := by
  have hb := (Box.made w t #[x, y]).below h (by simp)
  exact ⟨hb.cell 0, hb.cell 1⟩
theorem idx_first {id : Int} {l : List Int} {n : Nat} (hl : l.length = n) {b : Bool} (hb : b = (!isIdB id || decide (n = 0))) :
    firstI [whenI b 1, whenI (decide ((2 : Int) < (n : Int))) 4, whenI (!okFs l) 1] = (idxErr id l : Int) := by
  subst hb hl
  unfold idxErr
  cases hi : isIdB id with
  | false => simp [firstI, whenI]
  | true =>
    by_cases h0 : l.length = 0
    · simp [h0, firstI, whenI]
    · by_cases h2 : 2 < l.length
      · have : (2 : Int) < (l.length : Int) := by omega
        simp [h0, h2, this, firstI, whenI]
      · have : ¬ (2 : Int) < (l.length : Int) := by omega
        cases ho : okFs l <;> simp [h0, h2, this, firstI, whenI]
theorem first_laid (W : World) (x y z : Int) (t : TypeId) (g : Nat) (r : Int) (hg : W.heap.size = g) (hz : firstI [x, y, z] = r) :
    Calls Tryz.prog 63 #[.slice (some ⟨g, 0, none⟩) 3 3] (W.alloc (.cells #[.int .i64 x, .int .i64 y, .int .i64 z] t)) fun e w' => e = .returned (.int .i64 r) ∧ (W.alloc (.cells #[.int .i64 x, .int .i64 y, .int .i64 z] t)) = w' := by
  subst hz
  exact first_any _ _ _ (g + 1) [x, y, z] _ (ints_lit W #[.int .i64 x, .int .i64 y, .int .i64 z] [x, y, z] t rfl g hg) (by simp [maxLen])

set_option maxHeartbeats 1600000 in
set_option maxRecDepth 100000 in
theorem checkIndex_any (id : Int) (A : Option Addr) (n c B : Nat) (l : List Int) (w : World) (h : HasInts w B A n l) (hn : n ≤ maxLen) (hw : B ≤ w.heap.size) :
    Calls Tryz.prog 64 #[.agg #[.int .i64 id, .slice A n c]] w fun e w' => e = .returned (.int .i64 (idxErr id l : Int)) ∧ Below w.heap.size w w' := by
  have H := Lib.hid h
  clear h
  have Hl := Lib.hid H.out.1
  obtain ⟨w1, hw1⟩ : ∃ w1, w.alloc (.cells #[.int .i64 id, .slice A n c] 74) = w1 := ⟨_, rfl⟩
  have Hb1 : Hid (Below w.heap.size w w1) := Lib.hid (by rw [← hw1]; exact below_box _)
  have Hs : Hid (∀ wx, Below w1.heap.size w1 wx → wx.cell? ⟨w.heap.size, 0, none⟩ = some (.int .i64 id) ∧ wx.cell? ⟨w.heap.size, 1, none⟩ = some (.slice A n c)) := Lib.hid (by
    subst hw1
    exact fun wx hx => box2 hx)
  have Hcall : Hid (∀ wx, Below w1.heap.size w1 wx → Calls Tryz.prog 94 #[.slice A n c] wx fun e w' => e = .returned (.bool (okFs l)) ∧ Below wx.heap.size wx w') := Lib.hid (fun wx hx =>
    areFields_any A n c B l wx (H.out.belowOf (Hb1.out.trans (hx.mono Hb1.out.size)) hw) hn (Nat.le_trans hw (Nat.le_trans Hb1.out.size hx.size)))
  have Hid1 := Lib.hid (fun wx => isId_any id wx)
  have Hfirst : Hid (∀ (b : Bool), b = (!isIdB id || decide (n = 0)) → firstI [whenI b 1, whenI (decide ((2 : Int) < (n : Int))) 4, whenI (!okFs l) 1] = (idxErr id l : Int)) := Lib.hid (fun b hb => idx_first Hl.out hb)
  have hc := Hs.out w1 (Below.refl _ _)
  cases hi : isIdB id with
  | false =>
    rw [hi] at Hid1 Hfirst
    have Hf := Lib.hid (Hfirst.out true rfl)
    clear Hfirst hi
    go_enter Tryz.func64, Tryz.ntmps64
    go_wp2
    clear hw1
    have hS1 : (fun wx => wx.cell? ⟨w.heap.size, 0, none⟩ = some (.int .i64 id) ∧ wx.cell? ⟨w.heap.size, 1, none⟩ = some (.slice A n c)) w1.drew := hc
    refine wp_region_held_drew (S := fun wx => wx.cell? ⟨w.heap.size, 0, none⟩ = some (.int .i64 id) ∧ wx.cell? ⟨w.heap.size, 1, none⟩ = some (.slice A n c)) (by kernel_rfl) hS1 (fun hHeld => ?_)
    refine wpAnyH_take (i := 0) (oi := ⟨some 3, _, _, _, _, _⟩) (v := .pointer (some ⟨w.heap.size, 0, none⟩)) rfl (by kernel_rfl) (by kernel_rfl) (by kernel_rfl) (fun _ _ _ h => h) (Or.inl ⟨by rfl, ?_⟩) (by assumption) ?_
    · intro w hSw; (try dsimp only at hSw); go_simp
    simp only [Act.put, List.setIfInBounds_toArray, List.set_cons_zero, List.set_cons_succ]
    refine wpAnyH_take (i := 1) (oi := ⟨some 4, _, _, _, _, _⟩) (v := .int .i64 id) rfl (by kernel_rfl) (by kernel_rfl) (by kernel_rfl) (fun _ _ _ h => h) (Or.inl ⟨by rfl, ?_⟩) (by assumption) ?_
    · intro w hSw; (try dsimp only at hSw); go_simp
    simp only [Act.put, List.setIfInBounds_toArray, List.set_cons_zero, List.set_cons_succ]
    refine wpAnyH_take (i := 11) (oi := ⟨some 14, _, _, _, _, _⟩) (v := .pointer (some ⟨w.heap.size, 1, none⟩)) rfl (by kernel_rfl) (by kernel_rfl) (by kernel_rfl) (fun _ _ _ h => h) (Or.inl ⟨by rfl, ?_⟩) (by assumption) ?_
    · intro w hSw; (try dsimp only at hSw); go_simp
    simp only [Act.put, List.setIfInBounds_toArray, List.set_cons_zero, List.set_cons_succ]
    refine wpAnyH_take (i := 12) (oi := ⟨some 15, _, _, _, _, _⟩) (v := .slice A n c) rfl (by kernel_rfl) (by kernel_rfl) (by kernel_rfl) (fun _ _ _ h => h) (Or.inl ⟨by rfl, ?_⟩) (by assumption) ?_
    · intro w hSw; (try dsimp only at hSw); go_simp
    simp only [Act.put, List.setIfInBounds_toArray, List.set_cons_zero, List.set_cons_succ]
    refine wpAnyH_take (i := 13) (oi := ⟨some 16, _, _, _, _, _⟩) (v := .int .i64 (n : Int)) rfl (by kernel_rfl) (by kernel_rfl) (by kernel_rfl) (fun _ _ _ h => h) (Or.inl ⟨by rfl, ?_⟩) (by assumption) ?_
    · intro w hSw; (try dsimp only at hSw); go_simp
    simp only [Act.put, List.setIfInBounds_toArray, List.set_cons_zero, List.set_cons_succ]
    refine wpAnyH_take (i := 14) (oi := ⟨some 17, _, _, _, _, _⟩) (v := .bool (decide ((2 : Int) < (n : Int)))) rfl (by kernel_rfl) (by kernel_rfl) (by kernel_rfl) (fun _ _ _ h => h) (Or.inl ⟨by rfl, ?_⟩) (by assumption) ?_
    · intro w hSw; (try dsimp only at hSw); go_simp
    simp only [Act.put, List.setIfInBounds_toArray, List.set_cons_zero, List.set_cons_succ]
    refine wpAnyH_take (i := 16) (oi := ⟨some 19, _, _, _, _, _⟩) (v := .pointer (some ⟨w.heap.size, 1, none⟩)) rfl (by kernel_rfl) (by kernel_rfl) (by kernel_rfl) (fun _ _ _ h => h) (Or.inl ⟨by rfl, ?_⟩) (by assumption) ?_
    · intro w hSw; (try dsimp only at hSw); go_simp
    simp only [Act.put, List.setIfInBounds_toArray, List.set_cons_zero, List.set_cons_succ]
    refine wpAnyH_take (i := 17) (oi := ⟨some 20, _, _, _, _, _⟩) (v := .slice A n c) rfl (by kernel_rfl) (by kernel_rfl) (by kernel_rfl) (fun _ _ _ h => h) (Or.inl ⟨by rfl, ?_⟩) (by assumption) ?_
    · intro w hSw; (try dsimp only at hSw); go_simp
    simp only [Act.put, List.setIfInBounds_toArray, List.set_cons_zero, List.set_cons_succ]
    refine wpAnyH_ready (rs := [2]) (by kernel_rfl) (by simp) (AllReadyH.cons (o := ⟨some 5, _, _, _, _, _⟩) rfl (fun K hK => ?_) AllReadyH.nil)
    go_simp
    refine (Hid1.out _).mono ?_
    rintro e w2 ⟨rfl, rfl⟩
    refine hK.out _ _ hS1 (fun _ => ?_)
    clear hK K
    refine wpAnyH_take (i := 3) (oi := ⟨some 6, _, _, _, _, _⟩) (v := .bool true) rfl (by kernel_rfl) (by kernel_rfl) (by kernel_rfl) (fun _ _ _ h => h) (Or.inl ⟨by rfl, ?_⟩) (by assumption) ?_
    · intro w hSw; (try dsimp only at hSw); go_simp
    simp only [Act.put, List.setIfInBounds_toArray, List.set_cons_zero, List.set_cons_succ]
    refine wpAnyH_take (i := 4) (oi := ⟨some 7, _, _, _, _, _⟩) (v := .bool true) rfl (by kernel_rfl) (by kernel_rfl) (by kernel_rfl) (fun _ _ _ h => h) (Or.inl ⟨by rfl, ?_⟩) (by assumption) ?_
    · intro w hSw; (try dsimp only at hSw); go_simp
    simp only [Act.put, List.setIfInBounds_toArray, List.set_cons_zero, List.set_cons_succ]
    refine wpAnyH_take (i := 5) (oi := ⟨some 8, _, _, _, _, _⟩) (v := undef) rfl (by kernel_rfl) (by kernel_rfl) (by kernel_rfl) (fun _ _ _ h => h) (Or.inr ⟨by rfl, rfl⟩) (by assumption) ?_
    simp only [Act.put, List.setIfInBounds_toArray, List.set_cons_zero, List.set_cons_succ]
    refine wpAnyH_take (i := 6) (oi := ⟨some 9, _, _, _, _, _⟩) (v := undef) rfl (by kernel_rfl) (by kernel_rfl) (by kernel_rfl) (fun _ _ _ h => h) (Or.inr ⟨by rfl, rfl⟩) (by assumption) ?_
    simp only [Act.put, List.setIfInBounds_toArray, List.set_cons_zero, List.set_cons_succ]
    refine wpAnyH_take (i := 7) (oi := ⟨some 10, _, _, _, _, _⟩) (v := undef) rfl (by kernel_rfl) (by kernel_rfl) (by kernel_rfl) (fun _ _ _ h => h) (Or.inr ⟨by rfl, rfl⟩) (by assumption) ?_
    simp only [Act.put, List.setIfInBounds_toArray, List.set_cons_zero, List.set_cons_succ]
    refine wpAnyH_take (i := 8) (oi := ⟨some 11, _, _, _, _, _⟩) (v := undef) rfl (by kernel_rfl) (by kernel_rfl) (by kernel_rfl) (fun _ _ _ h => h) (Or.inr ⟨by rfl, rfl⟩) (by assumption) ?_
    simp only [Act.put, List.setIfInBounds_toArray, List.set_cons_zero, List.set_cons_succ]
    refine wpAnyH_take (i := 9) (oi := ⟨some 12, _, _, _, _, _⟩) (v := .bool true) rfl (by kernel_rfl) (by kernel_rfl) (by kernel_rfl) (fun _ _ _ h => h) (Or.inl ⟨by rfl, ?_⟩) (by assumption) ?_
    · intro w hSw; (try dsimp only at hSw); go_simp
    simp only [Act.put, List.setIfInBounds_toArray, List.set_cons_zero, List.set_cons_succ]
    refine wpAnyH_ready (rs := [10]) (by kernel_rfl) (by simp) (AllReadyH.cons (o := ⟨some 13, _, _, _, _, _⟩) rfl (fun K hK => ?_) AllReadyH.nil)
    go_simp
    refine (when_any _ _ _).mono ?_
    rintro e w2 ⟨rfl, rfl⟩
    refine hK.out _ _ hS1 (fun _ => ?_)
    clear hK K
    refine wpAnyH_ready (rs := [15]) (by kernel_rfl) (by simp) (AllReadyH.cons (o := ⟨some 18, _, _, _, _, _⟩) rfl (fun K hK => ?_) AllReadyH.nil)
    go_simp
    refine (when_any _ _ _).mono ?_
    rintro e w2 ⟨rfl, rfl⟩
    refine hK.out _ _ hS1 (fun _ => ?_)
    clear hK K
    refine wpAnyH_ready (rs := [18]) (by kernel_rfl) (by simp) (AllReadyH.cons (o := ⟨some 21, _, _, _, _, _⟩) rfl (fun K hK => ?_) AllReadyH.nil)
    go_simp
    refine (Hcall.out _ ((Below.refl _ _).drew)).mono ?_
    rintro e w3 ⟨rfl, hb3⟩
    have Hb3 : Hid (Below w1.heap.size w1 w3) := Lib.hid (((Below.refl _ w1).drew).trans hb3)
    clear hb3
    have hS3 := Hs.out _ Hb3.out
    refine hK.out _ _ hS3 (fun _ => ?_)
    clear hK K
    refine wpAnyH_take (i := 19) (oi := ⟨some 22, _, _, _, _, _⟩) (v := .bool (!okFs l)) rfl (by kernel_rfl) (by kernel_rfl) (by kernel_rfl) (fun _ _ _ h => h) (Or.inl ⟨by rfl, ?_⟩) (by assumption) ?_
    · intro w hSw; (try dsimp only at hSw); go_simp
    simp only [Act.put, List.setIfInBounds_toArray, List.set_cons_zero, List.set_cons_succ]
    refine wpAnyH_ready (rs := [20]) (by kernel_rfl) (by simp) (AllReadyH.cons (o := ⟨some 23, _, _, _, _, _⟩) rfl (fun K hK => ?_) AllReadyH.nil)
    go_simp
    refine (when_any _ _ _).mono ?_
    rintro e w2 ⟨rfl, rfl⟩
    refine hK.out _ _ hS3 (fun _ => ?_)
    clear hK K
    refine wpAnyH_ready (rs := [21]) (by kernel_rfl) (by simp) (AllReadyH.cons (o := ⟨some 24, _, _, _, _, _⟩) rfl (fun K hK => ?_) AllReadyH.nil)
    go_simp
    refine hK.out _ _ (Hs.out _ (Hb3.out.alloc Hb3.out.size _)) (fun _ => ?_)
    clear hK K
    refine wpAnyH_ready (rs := [22]) (by kernel_rfl) (by simp) (AllReadyH.cons (o := ⟨some 25, _, _, _, _, _⟩) rfl (fun K hK => ?_) AllReadyH.nil)
    go_simp
    refine (first_laid _ _ _ _ _ _ _ rfl Hf.out).mono ?_
    rintro e w4 ⟨rfl, rfl⟩
    refine hK.out _ _ (Hs.out _ (Hb3.out.alloc Hb3.out.size _)) (fun _ => ?_)
    clear hK K
    refine wpAnyH_take (i := 23) (oi := ⟨some 2, _, _, _, _, _⟩) (v := .int .i64 (idxErr id l : Int)) rfl (by kernel_rfl) (by kernel_rfl) (by kernel_rfl) (fun _ _ _ h => h) (Or.inl ⟨by rfl, ?_⟩) (by assumption) ?_
    · intro w hSw; (try dsimp only at hSw); go_simp
    simp only [Act.put, List.setIfInBounds_toArray, List.set_cons_zero, List.set_cons_succ]
    refine wpAnyH_done (by kernel_rfl) ?_ _
    go_wp2
    go_ret
    exact ⟨rfl, (Hb1.out.trans (Hb3.out.mono Hb1.out.size)).alloc (Nat.le_trans Hb1.out.size Hb3.out.size) _⟩
  | true =>
    rw [hi] at Hid1 Hfirst
    clear hi
    by_cases h0 : n = 0
    · subst h0
      have Hf := Lib.hid (Hfirst.out true rfl)
      clear Hfirst
      go_enter Tryz.func64, Tryz.ntmps64
      go_wp2
      clear hw1
      go_region_held3 (fun wx => wx.cell? ⟨w.heap.size, 0, none⟩ = some (.int .i64 id) ∧ wx.cell? ⟨w.heap.size, 1, none⟩ = some (.slice A 0 c))
        (first | go_keep | exact Hs.out _ Hb3.out | exact Hs.out _ (Hb3.out.alloc Hb3.out.size _))
        (first
          | (go_at_call 69; refine (Hid1.out _).mono ?_; rintro e w2 ⟨rfl, rfl⟩)
          | (go_at_call 68; refine (when_any _ _ _).mono ?_; rintro e w2 ⟨rfl, rfl⟩)
          | (go_at_call 94; refine (Hcall.out _ ((Below.refl _ _).drew)).mono ?_; rintro e w3 ⟨rfl, hb3⟩; have Hb3 : Hid (Below w1.heap.size w1 w3) := Lib.hid (((Below.refl _ w1).drew).trans hb3); clear hb3)
          | (go_at_call 63; refine (first_laid _ _ _ _ _ _ _ rfl Hf.out).mono ?_; rintro e w4 ⟨rfl, rfl⟩))
      go_wp2
      go_ret
      exact ⟨rfl, (Hb1.out.trans (Hb3.out.mono Hb1.out.size)).alloc (Nat.le_trans Hb1.out.size Hb3.out.size) _⟩
    · have hb : ((n : Int) == 0) = false := by simp; omega
      have Hf := Lib.hid (Hfirst.out false (by rw [decide_eq_false h0]; rfl))
      clear Hfirst h0
      go_enter Tryz.func64, Tryz.ntmps64
      go_wp2
      clear hw1
      go_region_held3 (fun wx => wx.cell? ⟨w.heap.size, 0, none⟩ = some (.int .i64 id) ∧ wx.cell? ⟨w.heap.size, 1, none⟩ = some (.slice A n c))
        (first | go_keep | exact Hs.out _ Hb3.out | exact Hs.out _ (Hb3.out.alloc Hb3.out.size _))
        (first
          | (go_at_call 69; refine (Hid1.out _).mono ?_; rintro e w2 ⟨rfl, rfl⟩)
          | (go_at_call 68; refine (when_any _ _ _).mono ?_; rintro e w2 ⟨rfl, rfl⟩)
          | (go_at_call 94; refine (Hcall.out _ ((Below.refl _ _).drew)).mono ?_; rintro e w3 ⟨rfl, hb3⟩; have Hb3 : Hid (Below w1.heap.size w1 w3) := Lib.hid (((Below.refl _ w1).drew).trans hb3); clear hb3)
          | (go_at_call 63; refine (first_laid _ _ _ _ _ _ _ rfl Hf.out).mono ?_; rintro e w4 ⟨rfl, rfl⟩))
      go_wp2
      go_ret
      exact ⟨rfl, (Hb1.out.trans (Hb3.out.mono Hb1.out.size)).alloc (Nat.le_trans Hb1.out.size Hb3.out.size) _⟩

end Go.Proofs.YtknfjajmnlpfjaaGreat

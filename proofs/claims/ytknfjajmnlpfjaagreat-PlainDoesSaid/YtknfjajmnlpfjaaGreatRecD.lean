/- The document's CheckIndex gives what the plain text (SpecRec) gives. Condition: the numbers are in memory. -/
import Derived.Test.YtknfjajmnlpfjaaGreatRecC
namespace Go.Proofs.YtknfjajmnlpfjaaGreat
open Go.RowKit
open Go.Lib (strCells compareBytes)

theorem okFs_one (x : Int) : okFs [x] = (decide (0 ≤ x) && decide (x ≤ 3)) := by
  have h : x < 0 ∨ x = 0 ∨ x = 1 ∨ x = 2 ∨ x = 3 ∨ 4 ≤ x := by omega
  rcases h with h | rfl | rfl | rfl | rfl | h
  · rw [okFs, okF_out (.inl h), decide_eq_false (by omega)]; rfl
  · rfl
  · rfl
  · rfl
  · rfl
  · rw [okFs, okF_out (.inr h), decide_eq_false (p := x ≤ 3) (by omega), Bool.and_false]
theorem okFs_two (x y : Int) : okFs [x, y] = (decide (0 ≤ x) && decide (x ≤ 3) && (decide (0 ≤ y) && decide (y ≤ 3)) && decide (x ≠ y)) := by
  have h : x < 0 ∨ 4 ≤ x ∨ x = 0 ∨ x = 1 ∨ x = 2 ∨ x = 3 := by omega
  have k : y < 0 ∨ 4 ≤ y ∨ y = 0 ∨ y = 1 ∨ y = 2 ∨ y = 3 := by omega
  rcases h with h | h | hx
  · rw [okFs, okF_out (.inl h), decide_eq_false (p := 0 ≤ x) (by omega)]; simp
  · rw [okFs, okF_out (.inr h), decide_eq_false (p := x ≤ 3) (by omega)]; simp
  · rcases k with k | k | hy
    · rw [decide_eq_false (p := 0 ≤ y) (by omega)]
      rcases hx with rfl | rfl | rfl | rfl <;> simp [okFs, okF] <;> omega
    · rw [decide_eq_false (p := y ≤ 3) (by omega)]
      rcases hx with rfl | rfl | rfl | rfl <;> simp [okFs, okF] <;> omega
    · rcases hx with rfl | rfl | rfl | rfl <;> rcases hy with rfl | rfl | rfl | rfl <;> rfl
theorem okFs_in {l : List Int} (h : okFs l = true) : ∀ x ∈ l, 0 ≤ x ∧ x < 4 := by
  have gen : ∀ (l : List Int) (b0 b1 b2 b3 : Bool), okF b0 b1 b2 b3 l = true → ∀ x ∈ l, 0 ≤ x ∧ x < 4 := by
    intro l
    induction l with
    | nil => intro _ _ _ _ _ x hx; cases hx
    | cons y l ih =>
      intro b0 b1 b2 b3 h x hx
      by_cases hy : y < 0 ∨ 4 ≤ y
      · rw [okF_out hy] at h; cases h
      · have hrest : ∃ c0 c1 c2 c3, okF c0 c1 c2 c3 l = true := by
          unfold okF at h
          split at h
          · split at h
            · cases h
            · exact ⟨_, _, _, _, h⟩
          · split at h
            · split at h
              · cases h
              · exact ⟨_, _, _, _, h⟩
            · split at h
              · split at h
                · cases h
                · exact ⟨_, _, _, _, h⟩
              · split at h
                · split at h
                  · cases h
                  · exact ⟨_, _, _, _, h⟩
                · cases h
        obtain ⟨c0, c1, c2, c3, hr⟩ := hrest
        rcases List.mem_cons.1 hx with rfl | hx
        · omega
        · exact ih _ _ _ _ hr x hx
  exact gen l _ _ _ _ h
theorem idxErr_ok {id : Int} {l : List Int} (h : idxErr id l = 0) : isIdB id = true ∧ 0 < l.length ∧ l.length ≤ 2 ∧ okFs l = true := by
  unfold idxErr at h
  split at h
  · omega
  · next h1 =>
    split at h
    · omega
    · split at h
      · next h3 =>
        refine ⟨?_, by omega, by omega, h3⟩
        cases hi : isIdB id with
        | true => rfl
        | false => exact absurd (.inl hi) h1
      · omega
theorem ints_box {w wx : World} {x y : Value} {t : TypeId} (h : Below (w.heap.size + 1) (w.alloc (.cells #[x, y] t)) wx) : wx.cell? ⟨w.heap.size, 0, none⟩ = some x ∧ wx.cell? ⟨w.heap.size, 1, none⟩ = some y := box2 (by simpa using h)

set_option maxHeartbeats 1600000 in
set_option maxRecDepth 100000 in
theorem refCheckIndex_any (id : Int) (A : Option Addr) (n c B : Nat) (l : List Int) (w : World) (h : HasInts w B A n l) (hn : n ≤ maxLen) (hw : B ≤ w.heap.size) :
    Calls Tryz.prog 57 #[.agg #[.int .i64 id, .slice A n c]] w fun e w' => e = .returned (.int .i64 (idxErr id l : Int)) ∧ Below w.heap.size w w' := by
  have Hl := Lib.hid h.1
  have H := Lib.hid h
  clear h
  by_cases h1 : id < 1
  · have E : Hid (idxErr id l = 1) := Lib.hid (by unfold idxErr; rw [if_pos (.inl (by unfold isIdB; rw [decide_eq_false (by omega)]; rfl))])
    go_enter Tryz.func57, Tryz.ntmps57
    go_wp2
    go_ret
    exact ⟨ret_i64 (by rw [E.out]; rfl), below_box _⟩
  · by_cases h6 : 6 < id
    · have E : Hid (idxErr id l = 1) := Lib.hid (by unfold idxErr; rw [if_pos (.inl (by unfold isIdB; rw [decide_eq_false (p := id ≤ 6) (by omega), Bool.and_false]))])
      have h1' : 1 ≤ id := by omega
      go_enter Tryz.func57, Tryz.ntmps57
      go_wp2
      go_ret
      exact ⟨ret_i64 (by rw [E.out]; rfl), below_box _⟩
    · have h1' : 1 ≤ id := by omega
      have h6' : id ≤ 6 := by omega
      have Hi : Hid (isIdB id = true) := Lib.hid (by unfold isIdB; rw [decide_eq_true h1', decide_eq_true h6']; rfl)
      clear h1 h6
      by_cases h0 : n = 0
      · subst h0
        have E : Hid (idxErr id l = 1) := Lib.hid (by unfold idxErr; rw [if_pos (.inr Hl.out)])
        go_enter Tryz.func57, Tryz.ntmps57
        go_wp2
        go_ret
        exact ⟨ret_i64 (by rw [E.out]; rfl), below_box _⟩
      · have hb : ((n : Int) == 0) = false := by simp; omega
        by_cases h2 : 2 < n
        · have E : Hid (idxErr id l = 4) := Lib.hid (by unfold idxErr; rw [if_neg (by rw [Hi.out]; have := Hl.out; simp only [Bool.true_eq_false, false_or]; omega), if_pos (by have := Hl.out; omega)])
          clear h0
          go_enter Tryz.func57, Tryz.ntmps57
          go_wp2
          go_ret
          exact ⟨ret_i64 (by rw [E.out]; rfl), below_box _⟩
        · have hn12 : n = 1 ∨ n = 2 := by omega
          clear h0 hb h2
          rcases hn12 with rfl | rfl
          · obtain ⟨a, x, rfl, hab, hx, hc⟩ := H.out.at_ (k := 0) (by omega)
            have hlx : l = [x] := by
              match l, Hl.out, hx with
              | [y], _, hx => simpa using hx
            have hE : idxErr id [x] = if okFs [x] then 0 else 1 := by unfold idxErr; rw [if_neg (by rw [Hi.out]; simp), if_neg (by simp)]
            subst hlx
            have hca : w.cell? a = some (.int .i64 x) := by simpa [Addr.add] using hc
            clear hx hc
            obtain ⟨w1, hw1⟩ : ∃ w1, w.alloc (.cells #[.int .i64 id, .slice (some a) 1 c] 74) = w1 := ⟨_, rfl⟩
            have Hb1 : Hid (Below w.heap.size w w1) := Lib.hid (by rw [← hw1]; exact below_box _)
            have Hca : Hid (w1.cell? a = some (.int .i64 x) ∧ w1.cell? ⟨w.heap.size, 0, none⟩ = some (.int .i64 id) ∧ w1.cell? ⟨w.heap.size, 1, none⟩ = some (.slice (some a) 1 c)) := Lib.hid (by
              have hbx := box2 (w := w) (x := .int .i64 id) (y := .slice (some a) 1 c) (t := 74) (Below.refl _ _)
              rw [← hw1]
              exact ⟨(World.cell?_alloc_lt w _ a (by omega)).trans hca, hbx.1, hbx.2⟩)
            have HE := Lib.hid hE
            clear hE hca
            obtain ⟨c0, q0, q1⟩ := Hca.out
            go_enter Tryz.func57, Tryz.ntmps57
            go_wp2
            clear hw1 c0 q0 q1
            go_loopw [3] (fun i wr => (∃ m, wr = w1.drewN m) ∧ (i = .int .i64 0 ∨ i = .int .i64 1 ∧ Hid (idxErr id [x] = 0))) (fun i _ => 1 - (intOf i).toNat)
            case atStart => exact ⟨⟨0, rfl⟩, .inl rfl⟩
            case round =>
              obtain ⟨⟨m, rfl⟩, hi⟩ := hrel
              obtain ⟨c0, q0, q1⟩ := Hca.out
              rcases hi with rfl | ⟨rfl, E⟩
              · by_cases hx0 : x < 0
                · have E : Hid (idxErr id [x] = 1) := Lib.hid (by rw [HE.out, okFs_one, decide_eq_false (p := 0 ≤ x) (by omega)]; rfl)
                  have hd : decide (x < 0) = true := decide_eq_true hx0
                  go_wp2
                  go_quiet (fail)
                  go_wp2
                  go_ret
                  exact ⟨ret_i64 (by rw [E.out]; rfl), below_drews (below_drews Hb1.out _) _⟩
                · by_cases hx3 : 3 < x
                  · have E : Hid (idxErr id [x] = 1) := Lib.hid (by rw [HE.out, okFs_one, decide_eq_false (p := x ≤ 3) (by omega), Bool.and_false]; rfl)
                    have hd : decide (x < 0) = false := decide_eq_false hx0
                    have hd3 : decide (3 < x) = true := decide_eq_true hx3
                    go_wp2
                    go_quiet (fail)
                    go_wp2
                    go_ret
                    exact ⟨ret_i64 (by rw [E.out]; rfl), below_drews (below_drews Hb1.out _) _⟩
                  · have E : Hid (idxErr id [x] = 0) := Lib.hid (by rw [HE.out, okFs_one, decide_eq_true (p := 0 ≤ x) (by omega), decide_eq_true (p := x ≤ 3) (by omega)]; rfl)
                    have hd : decide (x < 0) = false := decide_eq_false hx0
                    have hd3 : decide (3 < x) = false := decide_eq_false hx3
                    clear hx0 hx3
                    go_wp2
                    go_quiet (fail)
                    go_wp2
                    go_roundw
                    case rel => exact ⟨⟨_, rfl⟩, .inr ⟨by go_num, E⟩⟩
                    case measure => simp [intOf]
              · go_wp2
                go_ret
                exact ⟨ret_i64 (by rw [E.out]; rfl), below_drews Hb1.out _⟩
          · obtain ⟨a, x, rfl, hab, hx, hc⟩ := H.out.at_ (k := 0) (by omega)
            obtain ⟨a', y, ha', _, hy, hcy⟩ := H.out.at_ (k := 1) (by omega)
            injection ha' with ha'
            subst ha'
            have hlx : l = [x, y] := by
              match l, Hl.out, hx, hy with
              | [u, v], _, hx, hy => simp at hx hy; rw [hx, hy]
            have hE : idxErr id [x, y] = if okFs [x, y] then 0 else 1 := by unfold idxErr; rw [if_neg (by rw [Hi.out]; simp), if_neg (by simp)]
            subst hlx
            have hca : w.cell? a = some (.int .i64 x) := by simpa [Addr.add] using hc
            have hcb : w.cell? ⟨a.block, a.off + 1, none⟩ = some (.int .i64 y) := by simpa [Addr.add] using hcy
            clear hx hc hy hcy
            obtain ⟨w1, hw1⟩ : ∃ w1, w.alloc (.cells #[.int .i64 id, .slice (some a) 2 c] 74) = w1 := ⟨_, rfl⟩
            have Hb1 : Hid (Below w.heap.size w w1) := Lib.hid (by rw [← hw1]; exact below_box _)
            have Hca : Hid (w1.cell? a = some (.int .i64 x) ∧ w1.cell? ⟨w.heap.size, 0, none⟩ = some (.int .i64 id) ∧ w1.cell? ⟨w.heap.size, 1, none⟩ = some (.slice (some a) 2 c) ∧ w1.cell? ⟨a.block, a.off + 1, none⟩ = some (.int .i64 y)) := Lib.hid (by
              have hbx := box2 (w := w) (x := .int .i64 id) (y := .slice (some a) 2 c) (t := 74) (Below.refl _ _)
              rw [← hw1]
              exact ⟨(World.cell?_alloc_lt w _ a (by omega)).trans hca, hbx.1, hbx.2, (World.cell?_alloc_lt w _ ⟨a.block, a.off + 1, none⟩ (by show a.block < _; omega)).trans hcb⟩)
            have HE := Lib.hid hE
            clear hE hca hcb
            obtain ⟨c0, q0, q1, c1⟩ := Hca.out
            go_enter Tryz.func57, Tryz.ntmps57
            go_wp2
            clear hw1 c0 q0 q1 c1
            go_loopw [3] (fun i wr => (∃ m, wr = w1.drewN m) ∧ (i = .int .i64 0 ∨ i = .int .i64 1 ∧ Hid (0 ≤ x ∧ x ≤ 3) ∨ i = .int .i64 2 ∧ Hid (idxErr id [x, y] = 0))) (fun i _ => 2 - (intOf i).toNat)
            case atStart => exact ⟨⟨0, rfl⟩, .inl rfl⟩
            case round =>
              obtain ⟨⟨m, rfl⟩, hi⟩ := hrel
              obtain ⟨c0, q0, q1, c1⟩ := Hca.out
              rcases hi with rfl | ⟨rfl, Hx⟩ | ⟨rfl, E⟩
              · by_cases hx0 : x < 0
                · have E : Hid (idxErr id [x, y] = 1) := Lib.hid (by rw [HE.out, okFs_two, decide_eq_false (p := 0 ≤ x) (by omega)]; rfl)
                  have hd : decide (x < 0) = true := decide_eq_true hx0
                  go_wp2
                  go_quiet (fail)
                  go_wp2
                  go_ret
                  exact ⟨ret_i64 (by rw [E.out]; rfl), below_drews (below_drews Hb1.out _) _⟩
                · by_cases hx3 : 3 < x
                  · have E : Hid (idxErr id [x, y] = 1) := Lib.hid (by rw [HE.out, okFs_two, decide_eq_false (p := x ≤ 3) (by omega), Bool.and_false]; rfl)
                    have hd : decide (x < 0) = false := decide_eq_false hx0
                    have hd3 : decide (3 < x) = true := decide_eq_true hx3
                    go_wp2
                    go_quiet (fail)
                    go_wp2
                    go_ret
                    exact ⟨ret_i64 (by rw [E.out]; rfl), below_drews (below_drews Hb1.out _) _⟩
                  · have Hx : Hid (0 ≤ x ∧ x ≤ 3) := Lib.hid ⟨by omega, by omega⟩
                    have hd : decide (x < 0) = false := decide_eq_false hx0
                    have hd3 : decide (3 < x) = false := decide_eq_false hx3
                    clear hx0 hx3
                    go_wp2
                    go_quiet (fail)
                    go_wp2
                    go_roundw
                    case rel => exact ⟨⟨_, rfl⟩, .inr (.inl ⟨by go_num, Hx⟩)⟩
                    case measure => simp [intOf]
              · by_cases hx0 : y < 0
                · have E : Hid (idxErr id [x, y] = 1) := Lib.hid (by rw [HE.out, okFs_two, decide_eq_false (p := 0 ≤ y) (by omega)]; simp)
                  have hd : decide (y < 0) = true := decide_eq_true hx0
                  go_wp2
                  go_quiet (fail)
                  go_wp2
                  go_ret
                  exact ⟨ret_i64 (by rw [E.out]; rfl), below_drews (below_drews Hb1.out _) _⟩
                · by_cases hx3 : 3 < y
                  · have E : Hid (idxErr id [x, y] = 1) := Lib.hid (by rw [HE.out, okFs_two, decide_eq_false (p := y ≤ 3) (by omega)]; simp)
                    have hd : decide (y < 0) = false := decide_eq_false hx0
                    have hd3 : decide (3 < y) = true := decide_eq_true hx3
                    go_wp2
                    go_quiet (fail)
                    go_wp2
                    go_ret
                    exact ⟨ret_i64 (by rw [E.out]; rfl), below_drews (below_drews Hb1.out _) _⟩
                  · have hd : decide (y < 0) = false := decide_eq_false hx0
                    have hd3 : decide (3 < y) = false := decide_eq_false hx3
                    by_cases hxy : x = y
                    · have E : Hid (idxErr id [x, y] = 1) := Lib.hid (by rw [HE.out, okFs_two, decide_eq_false (p := x ≠ y) (by omega)]; simp)
                      have hde : (x == y) = true := by simpa using hxy
                      clear hx0 hx3 hxy
                      go_wp2
                      go_quiet (fail)
                      go_wp2
                      go_ret
                      exact ⟨ret_i64 (by rw [E.out]; rfl), below_drews (below_drews Hb1.out _) _⟩
                    · have E : Hid (idxErr id [x, y] = 0) := Lib.hid (by
                        have := Hx.out
                        rw [HE.out, okFs_two, decide_eq_true (p := 0 ≤ x) (by omega), decide_eq_true (p := x ≤ 3) (by omega), decide_eq_true (p := 0 ≤ y) (by omega), decide_eq_true (p := y ≤ 3) (by omega), decide_eq_true (p := x ≠ y) hxy]
                        rfl)
                      have hde : (x == y) = false := by simpa using hxy
                      clear hx0 hx3 hxy
                      go_wp2
                      go_quiet (fail)
                      go_wp2
                      go_roundw
                      case rel => exact ⟨⟨_, rfl⟩, .inr (.inr ⟨by go_num, E⟩)⟩
                      case measure => simp [intOf]
              · go_wp2
                go_ret
                exact ⟨ret_i64 (by rw [E.out]; rfl), below_drews Hb1.out _⟩

end Go.Proofs.YtknfjajmnlpfjaaGreat

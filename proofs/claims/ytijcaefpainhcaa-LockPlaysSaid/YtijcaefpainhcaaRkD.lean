/- Layer 16, the document's own table: Tick, Lose. Condition: the table is in memory. -/
import Derived.Test.YtijcaefpainhcaaRkC
import Derived.Test.YtijcaefpainhcaaSpecDo
namespace Go.Proofs.Ytijcaefpainhcaa
open Go.RowKit

theorem filter_take {α : Type} {f : α → Bool} {R : List α} {j : Nat} {y : α} (hy : R[j]? = some y) : (R.take (j + 1)).filter f = (R.take j).filter f ++ (if f y then [y] else []) := by
  rw [List.take_add_one, hy, List.filter_append]
  congr 1
  simp only [Option.toList_some, List.filter_cons, List.filter_nil]
theorem rk_snoc (R1 : List RE) (y : RE) : rkCells (R1 ++ [y]) = rkCells R1 ++ rkCells [y] := rkCells_app _ _
def keepR (lease now : Int) (e : RE) : Bool := decide (now - e.p.left < lease)
theorem rl_filter (lease now : Int) (R : List RE) : rl (R.filter (keepR lease now)) = (rl R).filter (keepT lease now) := by
  unfold rl
  rw [List.filter_map]
  rfl
section
variable {F : Nat → Prop} {w w' : World} {rb : Nat} {v : Value} {lease now : Int} {R : List RE}
set_option maxRecDepth 100000 in
set_option maxHeartbeats 6400000 in
theorem refTick16_any (h : RfAt w F rb v lease now R) (hR : R.length ≤ 100000) (hn0 : 0 ≤ now ∧ now ≤ 1000000) (hL : ∀ e ∈ R, 0 ≤ e.p.left ∧ e.p.left ≤ now) :
    Calls Try.prog 62 #[.pointer (some ⟨rb, 0, none⟩)] w fun e w' => e = .returned (.tuple #[]) ∧ ∃ v' R', RfAt w' (addF F w w') rb v' lease (now + 1) R' ∧ rl R' = (rl R).filter (keepT lease (now + 1)) ∧ KeptF F w w' := by
  have hw1 : IntKind.i64.wrap (now + 1) = now + 1 := IntWalk.i64_in _ (by omega)
  obtain ⟨w1, hw⟩ : ∃ w1, w.setCell ⟨rb, 1, none⟩ (.int .i64 (now + 1)) = w1 := ⟨_, rfl⟩
  obtain ⟨⟨q0, q1, q2⟩, f1, -⟩ := h.cells
  obtain ⟨h1, k1⟩ := h.setNow (now + 1) hw
  obtain ⟨A, c, rfl, -, -, hs⟩ := h1.own.slice
  obtain ⟨n, hn⟩ : ∃ n, R.length = n := ⟨_, rfl⟩
  rw [hn] at hR hs q2 h1
  have Hs := Lib.hid hs
  have Hn := Lib.hid hn
  have HL := Lib.hid hL
  have H1 := Lib.hid (And.intro h1 k1)
  have Hs1 : Hid (w1.heap.size = w.heap.size) := Lib.hid (by rw [← hw]; simp)
  have HQ : Hid (∀ wx, Below w1.heap.size w1 wx → (wx.cell? ⟨rb, 0, none⟩ = some (.int .i64 lease) ∧ wx.cell? ⟨rb, 1, none⟩ = some (.int .i64 (now + 1)) ∧ wx.cell? ⟨rb, 2, none⟩ = some (.slice A n c)) ∧ wx.frozen? ⟨rb, 2, none⟩ = false) := Lib.hid fun wx hx => by
    have := (H1.out.1.below hx).cells
    exact ⟨this.1, this.2.2⟩
  clear h h1 k1 hs hn hL
  go_enter Try.func62, Try.ntmps62
  go_wp2
  go_loopw [2, 3] (fun u iv wr => ∃ j : Nat, j ≤ n ∧ iv = .int .i64 (j : Int) ∧ Hid (wr.ownsRow w1.heap.size 83 3 u ((R.take j).filter (keepR lease (now + 1))).length (rkCells ((R.take j).filter (keepR lease (now + 1)))) ∧ Below w1.heap.size w1 wr)) (fun _ iv _ => n - (intOf iv).toNat)
  case atStart => exact ⟨0, by omega, rfl, Lib.hid ⟨World.ownsRow_nil _ _ _ _, Below.refl _ _⟩⟩
  case round =>
    obtain ⟨j, hj, rfl, HO⟩ := hrel
    obtain ⟨Au, cu, rfl, -, -, -⟩ := own_sliceN HO.out.1
    obtain ⟨⟨q0, q1, q2⟩, f2⟩ := HQ.out wr HO.out.2
    obtain ⟨m, hm⟩ : ∃ m, ((R.take j).filter (keepR lease (now + 1))).length = m := ⟨_, rfl⟩
    have Hm := Lib.hid hm
    have Hmn : Hid (m ≤ n) := Lib.hid (by
      rw [← hm]
      have := List.length_filter_le (keepR lease (now + 1)) (R.take j)
      rw [List.length_take] at this
      omega)
    rw [hm] at HO
    by_cases hlt : j < n
    · obtain ⟨a, y, rfl, hab, hy, c0, c1, c2⟩ := (Hs.out.belowOf HO.out.2 (Nat.le_refl _)).at_ hlt
      have Hy := Lib.hid hy
      have hk0 : (0 : Int) ≤ (j : Int) := by omega
      have hk1 : (j : Int) < (n : Int) := by omega
      have hly := HL.out y (List.mem_of_getElem? hy)
      have hwr : IntKind.i64.wrap (now + 1 - y.p.left) = now + 1 - y.p.left := IntWalk.i64_in _ (by omega)
      have Hft := Lib.hid (filter_take (f := keepR lease (now + 1)) hy)
      obtain ⟨d, hd⟩ : ∃ d, decide (now + 1 - y.p.left < lease) = d := ⟨_, rfl⟩
      have Hd := Lib.hid hd
      rw [hm]
      clear hy hab hly hm
      cases d with
      | false =>
        have HE : Hid (wr.ownsRow w1.heap.size 83 3 (.slice Au m cu) ((R.take (j + 1)).filter (keepR lease (now + 1))).length (rkCells ((R.take (j + 1)).filter (keepR lease (now + 1)))) ∧ Below w1.heap.size w1 wr) := Lib.hid (by
          have e0 : (R.take (j + 1)).filter (keepR lease (now + 1)) = (R.take j).filter (keepR lease (now + 1)) := by
            rw [Hft.out]
            have : keepR lease (now + 1) y = false := Hd.out
            rw [this]; simp
          rw [e0, Hm.out]
          exact HO.out)
        go_wp2
        go_quiet (fail)
        go_wp2
        go_roundw
        case rel => exact ⟨j + 1, by omega, by go_num, Lib.hid ⟨own_belowN HE.out.1 (below_drN (Below.refl _ _) _), below_drN HE.out.2 _⟩⟩
        case measure => simp [intOf]; omega
      | true =>
        obtain ⟨⟨yn, yL, yl⟩, yA, yc⟩ := y
        simp only at c0 c1 c2 hwr hd
        go_wp2
        go_quiet (fail)
        obtain ⟨wd, hwd⟩ : ∃ wd, wr.drewN nq = wd := ⟨_, rfl⟩
        have bd : Below wr.heap.size wr wd := hwd ▸ below_drN (Below.refl _ _) _
        have bwd : Below w1.heap.size w1 wd := HO.out.2.trans (bd.mono HO.out.2.size)
        obtain ⟨⟨q0, q1, q2⟩, f2⟩ := HQ.out wd bwd
        obtain ⟨a', y', ea, -, hy', c0, c1, c2⟩ := (Hs.out.belowOf bwd (Nat.le_refl _)).at_ hlt
        obtain rfl : a' = a := by injection ea with ea; exact ea.symm
        have hy2 := Hy.out
        rw [hy'] at hy2
        obtain rfl := Option.some.inj hy2
        simp only at c0 c1 c2
        rw [hwd]
        have HO1 : Hid ((wd.alloc (.cells #[.int .i64 yn, .slice yA yL.length yc, .int .i64 yl] 83)).ownsRow w1.heap.size 83 3 (.slice Au m cu) m (rkCells ((R.take j).filter (keepR lease (now + 1))))) := Lib.hid (own_belowN (own_belowN HO.out.1 bd) (below_box _))
        have HLt : Hid (Has (wd.alloc (.cells #[.int .i64 yn, .slice yA yL.length yc, .int .i64 yl] 83)) (wd.heap.size + 1) (some ⟨wd.heap.size, 0, none⟩) (1 * 3) (rkCells [⟨⟨yn, yL, yl⟩, yA, yc⟩])) := Lib.hid (rk_lit wd ⟨⟨yn, yL, yl⟩, yA, yc⟩)
        have hS : w1.heap.size ≤ (wd.alloc (.cells #[.int .i64 yn, .slice yA yL.length yc, .int .i64 yl] 83)).heap.size := by have := bwd.size; simp; omega
        have HBb : Hid (Below w1.heap.size w1 (wd.alloc (.cells #[.int .i64 yn, .slice yA yL.length yc, .int .i64 yl] 83))) := Lib.hid (bwd.trans ((below_box _).mono bwd.size))
        have hmn := Hmn.out
        clear bd bwd hy' hy2 ea hwd
        go_wp2_with (at_builtin; go_loud (refine wpList_append_hasN rfl (.tmp 39) (.tmp 47) _ rfl 83 rk_elem (by omega) Try.underlying76 rfl HO1.out rfl HLt.out (rkCells_one _) (by simp only [maxLen]; omega) (by omega) hS ?_; intro v7 w7 o7 g7 z7; obtain ⟨A7, c7, rfl, -, -, -⟩ := own_sliceN o7; have HE := Lib.hid (And.intro o7 (HBb.out.grown g7 hS (fun g hg => (HO1.out.lt g hg).1))); clear o7 g7 z7))
        have HE2 : Hid (w7.ownsRow w1.heap.size 83 3 (.slice A7 (m + 1) c7) ((R.take (j + 1)).filter (keepR lease (now + 1))).length (rkCells ((R.take (j + 1)).filter (keepR lease (now + 1)))) ∧ Below w1.heap.size w1 w7) := Lib.hid (by
          have e0 : (R.take (j + 1)).filter (keepR lease (now + 1)) = (R.take j).filter (keepR lease (now + 1)) ++ [⟨⟨yn, yL, yl⟩, yA, yc⟩] := by
            rw [Hft.out]
            have : keepR lease (now + 1) ⟨⟨yn, yL, yl⟩, yA, yc⟩ = true := Hd.out
            rw [this]; simp
          rw [e0, List.length_append, Hm.out, rkCells_app]
          exact HE.out)
        go_roundw
        case rel => exact ⟨j + 1, by omega, by go_num, HE2⟩
        case measure => simp [intOf]; omega
    · obtain rfl : j = n := by omega
      rw [hm]
      clear hm
      obtain ⟨W, hW⟩ : ∃ W, wr.setCell ⟨rb, 2, none⟩ (.slice Au m cu) = W := ⟨_, rfl⟩
      have HE : Hid (RfAt W (addF F w W) rb (.slice Au m cu) lease (now + 1) (R.filter (keepR lease (now + 1))) ∧ KeptF F w W) := Lib.hid (by
        have e0 : R.take j = R := List.take_of_length_le (by have := Hn.out; omega)
        obtain ⟨a1, a2⟩ := H1.out.1.setL HO.out.2 (v' := .slice Au m cu) (R' := R.filter (keepR lease (now + 1))) (by
          have h9 := HO.out.1
          have h8 := Hm.out
          rw [e0] at h9 h8
          unfold OwnRks
          rw [h8]
          exact h9) (fun e he => by
          have he' := (List.mem_filter.1 he).1
          exact ⟨ownL_keep (H1.out.1.rows e he') fun g hg => HO.out.2.block g (H1.out.1.lt g (H1.out.1.eF e he' g hg)), fun g hg => .inl (H1.out.1.eF e he' g hg)⟩) hW
        have e1 : addF F w1 W = addF F w W := by unfold addF; rw [Hs1.out]
        exact ⟨e1 ▸ a1, H1.out.2.trans0 a2⟩)
      go_wp2
      go_end0
      exact ⟨rfl, _, _, HE.out.1, rl_filter _ _ _, HE.out.2⟩
end
end Go.Proofs.Ytijcaefpainhcaa

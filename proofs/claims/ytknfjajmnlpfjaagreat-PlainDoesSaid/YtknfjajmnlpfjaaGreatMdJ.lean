/- The indexes of the program's store and of the document's, in plain words: the one keeps numbers and fields, the other a place a number. Condition: none. -/
import Derived.Test.YtknfjajmnlpfjaaGreatMdE
import Derived.BigQuiet
import Derived.Test.YtknfjajmnlpfjaaGreatMdB
import Derived.Test.YtknfjajmnlpfjaaGreatMdC
namespace Go.Proofs.YtknfjajmnlpfjaaGreat
open Go.RowKit
open Go.Lib (strCells compareBytes)

/-- what stands from the first key on, as long as it stands below the last one, so many at most -/
def refScan {α : Type} (f t : List UInt8) (lim : Nat) (M : Kv α) : Kv α := ((M.drop (posK f M)).takeWhile fun p => decide (t = []) || decide (p.1 < t)).take lim
theorem takeWhile_stop {α : Type} {p : α → Bool} : ∀ {l : List α} {j : Nat}, (∀ q, q < j → ∀ x, l[q]? = some x → p x = true) → j ≤ l.length → (∀ x, l[j]? = some x → p x = false) → l.takeWhile p = l.take j
  | [], j, _, _, _ => by simp
  | x :: l, 0, _, _, h2 => by
    have := h2 x (by simp)
    simp [this]
  | x :: l, j + 1, h1, hj, h2 => by
    have h0 := h1 0 (by omega) x (by simp)
    rw [List.takeWhile_cons, if_pos h0, takeWhile_stop (j := j) (fun q hq y hy => h1 (q + 1) (by omega) y (by simpa using hy)) (by simpa using hj) (fun y hy => h2 y (by simpa using hy))]
    simp
theorem takeWhile_part {α : Type} {p : α → Bool} : ∀ {l : List α} {j : Nat}, (∀ q, q < j → ∀ x, l[q]? = some x → p x = true) → j ≤ l.length → (l.takeWhile p).take j = l.take j
  | [], j, _, _ => by simp
  | x :: l, 0, _, _ => by simp
  | x :: l, j + 1, h1, hj => by
    have h0 := h1 0 (by omega) x (by simp)
    have hj' : j ≤ l.length := by simp only [List.length_cons] at hj; omega
    rw [List.takeWhile_cons, if_pos h0, List.take_succ_cons, List.take_succ_cons, takeWhile_part (j := j) (fun q hq y hy => h1 (q + 1) (by omega) y (by simpa using hy)) hj']
theorem takeWhile_len {α : Type} {p : α → Bool} {l : List α} {j : Nat} (h1 : ∀ q, q < j → ∀ x, l[q]? = some x → p x = true) (hj : j ≤ l.length) (h2 : ∀ x, l[j]? = some x → p x = false) {lim : Nat} (hl : j ≤ lim) : l.take j = (l.takeWhile p).take lim := by
  rw [takeWhile_stop h1 hj h2, List.take_take, Nat.min_eq_right hl]
section
variable {w : World} {B tb : Nat} {rv xv : Value} {rs : Kv (Value × List TVal)} {F : List (Value × List Int)}
theorem mapK_scan {f t : List UInt8} {lim : Nat} {rs : Kv (Value × List TVal)} : mapK (·.2) (refScan f t lim rs) = refScan f t lim (mapK (·.2) rs) := by
  unfold refScan
  have hp : posK f (mapK (·.2) rs) = posK f rs := by
    induction rs with
    | nil => rfl
    | cons x l ih =>
      simp only [mapK, List.map_cons, posK] at ih ⊢
      rw [ih]
  rw [hp]
  simp only [mapK, List.map_take, ← List.map_drop]
  congr 1
  generalize rs.drop (posK f rs) = l
  induction l with
  | nil => rfl
  | cons x l ih =>
    simp only [List.map_cons, List.takeWhile_cons]
    by_cases h : (decide (t = []) || decide (x.1 < t)) = true
    · rw [if_pos h, if_pos h, List.map_cons, ih]
    · rw [if_neg h, if_neg h]
      rfl
set_option maxRecDepth 100000 in
set_option maxHeartbeats 3200000 in
theorem ref_k5 (h : RSt w B tb rv xv rs F) (C : Nat) (hC : C ≤ w.heap.size) (key to : ByteArray) (rc old low high : List TVal) (id sp nd : Int) (lim : Nat) (fs : List Int) (Ar Ao Af Al Ah : Option Addr) (nr cr no co nf cf nl cl nh ch : Nat)
    (ho : OpIs w C (.agg #[.int .i64 5, .string key, .string to, .slice Ar nr cr, .slice Ao no co, .int .i64 id, .slice Af nf cf, .slice Al nl cl, .slice Ah nh ch, .int .i64 (lim : Int), .int .i64 sp, .int .i64 nd]) ⟨5, key, to, rc, old, id, fs, low, high, (lim : Int), sp, nd⟩) (hz : checkT ⟨5, key, to, rc, old, id, fs, low, high, (lim : Int), sp, nd⟩ = 0) (hl : rs.length ≤ 1000) (hlim : lim ≤ 64) :
    Calls Tryz.prog 10 #[.pointer (some ⟨tb, 0, none⟩), .agg #[.int .i64 5, .string key, .string to, .slice Ar nr cr, .slice Ao no co, .int .i64 id, .slice Af nf cf, .slice Al nl cl, .slice Ah nh ch, .int .i64 (lim : Int), .int .i64 sp, .int .i64 nd]] w (RefPost B tb (mapK (·.2) rs) (F.map (·.2)) ⟨0, false, [], refScan key.data.toList to.data.toList lim (mapK (·.2) rs), 0⟩ w) := by
  obtain ⟨w00, hw00⟩ : ∃ w00, w.alloc (.cells #[.int .i64 5, .string key, .string to, .slice Ar nr cr, .slice Ao no co, .int .i64 id, .slice Af nf cf, .slice Al nl cl, .slice Ah nh ch, .int .i64 (lim : Int), .int .i64 sp, .int .i64 nd] 39) = w00 := ⟨_, rfl⟩
  have hb00 : Below w.heap.size w w00 := hw00 ▸ below_alloc _ _
  have hbo0 : Box w00 w.heap.size 39 #[.int .i64 5, .string key, .string to, .slice Ar nr cr, .slice Ao no co, .int .i64 id, .slice Af nf cf, .slice Al nl cl, .slice Ah nh ch, .int .i64 (lim : Int), .int .i64 sp, .int .i64 nd] := hw00 ▸ Box.made _ _ _
  have hs00 : w00.heap.size = w.heap.size + 1 := by rw [← hw00]; simp
  obtain ⟨w0, hw0⟩ : ∃ w0, w00.alloc (.cells #[.int .i64 0, .bool false, .slice none 0 0, .slice none 0 0, .int .i64 0] 35) = w0 := ⟨_, rfl⟩
  have hb0 : Below w.heap.size w w0 := Below.then hb00 (hw0 ▸ below_alloc _ _)
  have hbx : Box w0 (w.heap.size + 1) 35 #[.int .i64 0, .bool false, .slice none 0 0, .slice none 0 0, .int .i64 0] := hw0 ▸ made_at hs00 _ _
  have hbo : Box w0 w.heap.size 39 #[.int .i64 5, .string key, .string to, .slice Ar nr cr, .slice Ao no co, .int .i64 id, .slice Af nf cf, .slice Al nl cl, .slice Ah nh ch, .int .i64 (lim : Int), .int .i64 sp, .int .i64 nd] := hw0 ▸ hbo0.alloc _
  have hsz : w0.heap.size = w.heap.size + 1 + 1 := by rw [← hw0]; simp [hs00]
  have hchk := refCheck_any _ _ C w0 (Nat.le_trans hC hb0.size) (ho.belowOf hb0 hC)
  have e0 := hbo.cell 0; have e1 := hbo.cell 1; have e2 := hbo.cell 2; have e3 := hbo.cell 3; have e4 := hbo.cell 4; have e5 := hbo.cell 5
  have e6 := hbo.cell 6; have e7 := hbo.cell 7; have e8 := hbo.cell 8; have e9 := hbo.cell 9; have e10 := hbo.cell 10; have e11 := hbo.cell 11
  have H := Lib.hid h
  have Hbx := Lib.hid hbx
  have Hbo := Lib.hid hbo
  have Hb0 := Lib.hid hb0
  have Hsz := Lib.hid hsz
  have Hchk := Lib.hid hchk
  clear hbo hbo0 hb00 hb0 hbx hsz hchk h ho
  rw [hz] at Hchk
  go_enter Tryz.func10, Tryz.ntmps10
  go_wp2_with fail
  refine Hchk.out.mono ?_
  rintro e w1 ⟨rfl, hb1⟩
  have hbo1 := Hbo.out.below hb1 Hbo.out.lt
  obtain ⟨a0, a1, a2, a3, a4, a5, a6, a7, a8, a9, a10, a11⟩ := box12R hbo1
  have Hbo1 := Lib.hid hbo1
  have Hb1 := Lib.hid hb1
  have Hbw := Lib.hid (Below.trans Hb0.out (hb1.mono (by rw [Hsz.out]; omega)))
  have Hbx1 := Lib.hid (Hbx.out.below hb1 Hbx.out.lt)
  have Hlt1 : Hid (w.heap.size + 1 < w1.heap.size) := Lib.hid (by have := hb1.size; have := Hsz.out; omega)
  clear hbo1 hb1
  have Hfind := Lib.hid (refFind_any (H.out.below Hbw.out) key hl)
  have hrise := H.out.rise
  obtain ⟨P, hP⟩ : ∃ P, posK key.data.toList rs = P := ⟨_, rfl⟩
  obtain ⟨is, his⟩ : ∃ b, (getK key.data.toList rs).isSome = b := ⟨_, rfl⟩
  have hget := getK_pos key.data.toList rs hrise
  rw [hP, his] at Hfind
  rw [hP] at hget
  have HP := Lib.hid hP
  have HS := Lib.hid his
  have Hget := Lib.hid hget
  have Hl := Lib.hid hl
  have His : Hid (is = (getK key.data.toList (mapK (·.2) rs)).isSome) := Lib.hid (by rw [← his]; exact (isSome_mapK _ _).symm)
  clear hP his hget hrise hl
  go_wp2_with fail
  refine Hfind.out.mono ?_
  rintro e w2 ⟨rfl, m2, h2⟩
  have hbo2 := Hbo1.out.below (below_drews (Below.refl w1.heap.size w1) m2) Hbo1.out.lt
  have hbx2 := Hbx1.out.below (below_drews (Below.refl w1.heap.size w1) m2) Hbx1.out.lt
  rw [← h2] at hbo2 hbx2
  have Hb2 : Hid (Below w.heap.size w w2) := Lib.hid (by rw [h2]; exact below_drews Hbw.out m2)
  have Hlt2 : Hid (w.heap.size + 1 < w2.heap.size) := Lib.hid (by rw [h2]; exact Hlt1.out)
  have HR2 : Hid (RSt w2 B tb rv xv rs F) := Lib.hid (H.out.below Hb2.out)
  have Hbx2 := Lib.hid hbx2
  have Hbo2 := Lib.hid hbo2
  have Htb := Lib.hid H.out.lt
  clear h2 a0 a1 a2 a3 a4 a5 a6 a7 a8 a9 a10 a11
  obtain ⟨a0, a1, a2, a3, a4, a5, a6, a7, a8, a9, a10, a11⟩ := box12R hbo2
  obtain ⟨tc0, tc1, -, -⟩ := HR2.out.cells
  have hrw := HR2.out.rows
  obtain ⟨Aw, N, cw, hre, hwl⟩ : ∃ Aw N cw, rv = .slice Aw N cw ∧ rs.length = N := by
    obtain ⟨A', c', e, -⟩ := own_sliceN hrw
    exact ⟨A', _, c', e, rfl⟩
  rw [hre] at tc0
  clear hbo2 hbx2
  cases is with
  | true =>
    obtain ⟨x, hx, hxk⟩ : ∃ x, rs[P]? = some x ∧ getK key.data.toList rs = some x.2 := by
      have h1 := Hget.out
      have h2 := HS.out
      rw [h1] at h2
      cases hp : rs[P]? with
      | none => rw [hp] at h2; cases h2
      | some x =>
        rw [hp] at h1 h2
        refine ⟨x, rfl, ?_⟩
        simp only [Option.bind_some] at h1 h2
        by_cases e : x.1 = key.data.toList
        · rw [if_pos e] at h1
          exact h1
        · rw [if_neg e] at h2
          cases h2
    have hPN : P < N := by rw [← hwl]; exact (List.getElem?_eq_some_iff.1 hx).1
    have hrw' := hrw
    rw [hre, hwl] at hrw'
    obtain ⟨aw, rfl, hcw⟩ := row_cellR hrw' hPN hx
    have hxo := HR2.out.recs x (List.mem_of_getElem? hx)
    obtain ⟨Ax, cx, ex, -⟩ := own_sliceN hxo
    obtain ⟨zx, hzx⟩ : ∃ z, x.2.2.length = z := ⟨_, rfl⟩
    rw [hzx] at ex
    rw [ex] at hcw
    have Hxo : Hid (w2.ownsRow B 53 3 (.slice Ax zx cx) x.2.2.length (valCells x.2.2)) := Lib.hid (by rw [← ex]; exact hxo)
    have Hzx := Lib.hid hzx
    have Hxk : Hid ((getK key.data.toList (mapK (·.2) rs)).getD [] = x.2.2) := Lib.hid (by rw [mapK_get, hxk]; rfl)
    have p0 : (0 : Int) ≤ (P : Int) := by omega
    have p1 : (P : Int) < (N : Int) := by omega
    clear hx hxk hxo ex hrw' hzx
    have Hrw2 := Lib.hid hrw
    have hPle : P ≤ N := by rw [← hwl, ← HP.out]; exact posK_le _ _
    have hNb : N ≤ 1000 := by have := Hl.out; omega
    go_wp2
    go_loopw [9, 10] (fun ov i wr => ∃ (i' j : Nat), i' = P + j ∧ i' ≤ N ∧ j ≤ lim ∧ i = .int .i64 (i' : Int) ∧ wr.ownsRow w2.heap.size 55 2 ov j (rowCells ((rs.drop P).take j)) ∧ Hid (∀ q, q < j → ∀ x, (rs.drop P)[q]? = some x → (decide (to.data.toList = []) || decide (x.1 < to.data.toList)) = true) ∧ Below w2.heap.size w2 wr) (fun _ i _ => N - (intOf i).toNat)
    case atStart => exact ⟨P, 0, by omega, hPle, by omega, rfl, World.ownsRow_nil _ _ _ _, Lib.hid (fun q hq => by omega), Below.refl _ _⟩
    case round =>
      obtain ⟨i', j, hij, hiN, hjl, rfl, hown, Hall, hbr⟩ := hrel
      have Hown := Lib.hid hown
      have Hbr := Lib.hid hbr
      have HRr := Lib.hid (HR2.out.below hbr)
      obtain ⟨Ao', co', rfl, -⟩ := own_sliceN hown
      have Hij := Lib.hid hij
      have t0 := HRr.out.cells.1
      rw [hre] at t0
      obtain ⟨b0, b1, b2, b3, b4, b5, b6, b7, b8, b9, b10, b11⟩ := box12R (Hbo2.out.below hbr Hbo2.out.lt)
      have i0 : (0 : Int) ≤ (i' : Int) := by omega
      clear hown hbr hij
      by_cases hiN' : i' < N
      · have i1 : (i' : Int) < (N : Int) := by omega
        by_cases hjl' : j < lim
        · have j1 : (j : Int) < (lim : Int) := by omega
          obtain ⟨x, hx⟩ : ∃ x, rs[i']? = some x := ⟨_, List.getElem?_eq_getElem (by omega)⟩
          have hrr := HRr.out.rows
          rw [hre, hwl] at hrr
          obtain ⟨ak, e2, q0⟩ := key_cell hrr hiN' hx
          obtain ⟨am, e3, q1⟩ := row_cellR hrr hiN' hx
          cases e2
          cases e3
          obtain ⟨Av, cv, ev, -⟩ := own_sliceN (HRr.out.recs x (List.mem_of_getElem? hx))
          obtain ⟨zv, hzv⟩ : ∃ z, x.2.2.length = z := ⟨_, rfl⟩
          rw [hzv] at ev
          rw [ev] at q1
          unfold encStr at q0
          have Hxl : Hid ((rs.drop P)[j]? = some x) := Lib.hid (by rw [List.getElem?_drop, ← Hij.out]; exact hx)
          have Hev := Lib.hid ev
          clear hx hrr ev hzv
          by_cases hte : to.data.toList = []
          · have te : (to.toList == []) = true := by rw [Lib.toList_data, hte]; rfl
            have Hp : Hid ((decide (to.data.toList = []) || decide (x.1 < to.data.toList)) = true) := Lib.hid (by rw [decide_eq_true hte]; rfl)
            go_wp2
            go_quiet (fail)
            have q0' : (wr.drewN nq).cell? (aw.add (i' * 2)) = some (.string ⟨x.1.toArray⟩) := q0
            have q1' : (wr.drewN nq).cell? ⟨(aw.add (i' * 2)).block, (aw.add (i' * 2)).off + 1, none⟩ = some (.slice Av zv cv) := q1
            have t0' : (wr.drewN nq).cell? ⟨tb, 0, none⟩ = some (.slice (some aw) N cw) := t0
            have Hbq : Hid (Below w2.heap.size w2 (wr.drewN nq)) := Lib.hid (below_drews Hbr.out nq)
            have Hoq : Hid ((wr.drewN nq).ownsRow w2.heap.size 55 2 (.slice Ao' j co') j (rowCells ((rs.drop P).take j))) := Lib.hid Hown.out
            obtain ⟨wq, hwq⟩ : ∃ y, wr.drewN nq = y := ⟨_, rfl⟩
            rw [hwq] at q0' q1' t0' Hbq Hoq
            rw [hwq]
            clear t0 b0 b1 b2 b3 b4 b5 b6 b7 b8 b9 b10 b11 q0 q1 te
            go_wp2_with (at_builtin; refine wpList_append_hasN rfl (.tmp 133) (.tmp 141) _ rfl 55 row_elem (by omega) Tryz.underlying33 rfl (own_belowN Hoq.out (below_alloc _ _)) rfl (Has.lit wq #[.string ⟨x.1.toArray⟩, .slice Av zv cv] _) (by intro u hu; simp at hu; rcases hu with rfl | rfl <;> rfl) (by simp only [maxLen]; omega) (by omega) (by have := Hbq.out.size; simp; omega) ?_; intro v3 x4 ho3 hg3 hz3; have BX : Below w2.heap.size w2 (wq.alloc (.cells #[.string ⟨x.1.toArray⟩, .slice Av zv cv] 55)) := Hbq.out.trans ((below_alloc _ _).mono Hbq.out.size); have OA : (wq.alloc (.cells #[.string ⟨x.1.toArray⟩, .slice Av zv cv] 55)).ownsRow w2.heap.size 55 2 (.slice Ao' j co') j (rowCells ((rs.drop P).take j)) := own_belowN Hoq.out (below_alloc _ _); have B4 : Hid (Below w2.heap.size w2 x4) := Lib.hid (BX.grown hg3 BX.size (fun g e => (OA.lt g e).1)); have O3 : Hid (x4.ownsRow w2.heap.size 55 2 v3 (j + 1) (rowCells ((rs.drop P).take (j + 1)))) := Lib.hid (own_eqR ho3 rfl (by rw [List.take_add_one, Hxl.out, rowCells_app]; simp [rowCells, encStr, Hev.out])); clear ho3 hg3 hz3 BX OA)
            go_roundw
            case rel => exact ⟨i' + 1, j + 1, by have := Hij.out; omega, by omega, by omega, by go_num, O3.out, Lib.hid (fun q hq y hy => by
                by_cases hqj : q < j
                · exact Hall.out q hqj y hy
                · obtain rfl : q = j := by omega
                  rw [Hxl.out] at hy
                  injection hy with hy
                  subst hy
                  exact Hp.out), B4.out⟩
            case measure => simp [intOf]; omega
          · have te : (to.toList == []) = false := by rw [Lib.toList_data]; simpa using hte
            by_cases hls : x.1 < to.data.toList
            · have hless : Op.bytesLess x.1 to.toList = true := by
                rw [bytesLess_lt, Lib.toList_data]
                exact decide_eq_true hls
              have Hp : Hid ((decide (to.data.toList = []) || decide (x.1 < to.data.toList)) = true) := Lib.hid (by rw [decide_eq_true hls, Bool.or_true])
              go_wp2
              go_quiet (fail)
              have q0' : (wr.drewN nq).cell? (aw.add (i' * 2)) = some (.string ⟨x.1.toArray⟩) := q0
              have q1' : (wr.drewN nq).cell? ⟨(aw.add (i' * 2)).block, (aw.add (i' * 2)).off + 1, none⟩ = some (.slice Av zv cv) := q1
              have t0' : (wr.drewN nq).cell? ⟨tb, 0, none⟩ = some (.slice (some aw) N cw) := t0
              have Hbq : Hid (Below w2.heap.size w2 (wr.drewN nq)) := Lib.hid (below_drews Hbr.out nq)
              have Hoq : Hid ((wr.drewN nq).ownsRow w2.heap.size 55 2 (.slice Ao' j co') j (rowCells ((rs.drop P).take j))) := Lib.hid Hown.out
              obtain ⟨wq, hwq⟩ : ∃ y, wr.drewN nq = y := ⟨_, rfl⟩
              rw [hwq] at q0' q1' t0' Hbq Hoq
              rw [hwq]
              clear t0 b0 b1 b2 b3 b4 b5 b6 b7 b8 b9 b10 b11 q0 q1 te
              go_wp2_with (at_builtin; refine wpList_append_hasN rfl (.tmp 133) (.tmp 141) _ rfl 55 row_elem (by omega) Tryz.underlying33 rfl (own_belowN Hoq.out (below_alloc _ _)) rfl (Has.lit wq #[.string ⟨x.1.toArray⟩, .slice Av zv cv] _) (by intro u hu; simp at hu; rcases hu with rfl | rfl <;> rfl) (by simp only [maxLen]; omega) (by omega) (by have := Hbq.out.size; simp; omega) ?_; intro v3 x4 ho3 hg3 hz3; have BX : Below w2.heap.size w2 (wq.alloc (.cells #[.string ⟨x.1.toArray⟩, .slice Av zv cv] 55)) := Hbq.out.trans ((below_alloc _ _).mono Hbq.out.size); have OA : (wq.alloc (.cells #[.string ⟨x.1.toArray⟩, .slice Av zv cv] 55)).ownsRow w2.heap.size 55 2 (.slice Ao' j co') j (rowCells ((rs.drop P).take j)) := own_belowN Hoq.out (below_alloc _ _); have B4 : Hid (Below w2.heap.size w2 x4) := Lib.hid (BX.grown hg3 BX.size (fun g e => (OA.lt g e).1)); have O3 : Hid (x4.ownsRow w2.heap.size 55 2 v3 (j + 1) (rowCells ((rs.drop P).take (j + 1)))) := Lib.hid (own_eqR ho3 rfl (by rw [List.take_add_one, Hxl.out, rowCells_app]; simp [rowCells, encStr, Hev.out])); clear ho3 hg3 hz3 BX OA)
              go_roundw
              case rel => exact ⟨i' + 1, j + 1, by have := Hij.out; omega, by omega, by omega, by go_num, O3.out, Lib.hid (fun q hq y hy => by
                  by_cases hqj : q < j
                  · exact Hall.out q hqj y hy
                  · obtain rfl : q = j := by omega
                    rw [Hxl.out] at hy
                    injection hy with hy
                    subst hy
                    exact Hp.out), B4.out⟩
              case measure => simp [intOf]; omega
            · have hless : Op.bytesLess x.1 to.toList = false := by
                rw [bytesLess_lt, Lib.toList_data]
                exact decide_eq_false hls
              have Hp : Hid (∀ y, (rs.drop P)[j]? = some y → (decide (to.data.toList = []) || decide (y.1 < to.data.toList)) = false) := Lib.hid (fun y hy => by
                rw [Hxl.out] at hy
                injection hy with hy
                subst hy
                rw [decide_eq_false hte, decide_eq_false hls]; rfl)
              go_wp2
              go_quiet (fail)
              have hbq : Below w2.heap.size w2 (wr.drewN nq) := below_drews Hbr.out nq
              have hoq : (wr.drewN nq).ownsRow w2.heap.size 55 2 (.slice Ao' j co') j (rowCells ((rs.drop P).take j)) := Hown.out
              obtain ⟨wq, hwq⟩ : ∃ y, wr.drewN nq = y := ⟨_, rfl⟩
              rw [hwq] at hbq hoq
              have hbx5 := Hbx2.out.below hbq (by have := Hlt2.out; omega)
              have hb5 : Below w.heap.size w wq := Hb2.out.trans (hbq.mono Hb2.out.size)
              have HRx := HR2.out.below hbq
              have hrows5 : RowsIs wq B (.slice Ao' j co') (mapK (·.2) ((rs.drop P).take j)) := ⟨(rs.drop P).take j, ⟨own_baseN (own_eqR hoq (by rw [List.length_take, List.length_drop]; have := Hij.out; omega) rfl) (Nat.le_trans H.out.old Hb2.out.size), fun r hr => HRx.recs r (List.mem_of_mem_drop (List.mem_of_mem_take hr))⟩, rfl⟩
              have Hlist : Hid (mapK (·.2) ((rs.drop P).take j) = refScan key.data.toList to.data.toList lim (mapK (·.2) rs)) := Lib.hid (by
                rw [← mapK_scan, refScan, HP.out]
                have hlen : (rs.drop P).length = N - P := by rw [List.length_drop]; omega
                refine congrArg (mapK (fun x : Value × List TVal => x.2)) ?_
                have hij := Hij.out
                exact takeWhile_len Hall.out (by omega) Hp.out hjl)
              have HbW := Lib.hid hb5
              have HRX := Lib.hid HRx
              have HROW := Lib.hid hrows5
              clear hb5 HRx hrows5 hbq hoq
              rw [hwq]
              obtain ⟨r0, r1, r2, r3, r4, k0, k1, k2, k3, k4⟩ := box5 hbx5
              obtain ⟨W3, hW3⟩ : ∃ W3, ((((wq.setCell ⟨w.heap.size + 1, 0, none⟩ (.int .i64 0)).setCell ⟨w.heap.size + 1, 1, none⟩ (.bool false)).setCell ⟨w.heap.size + 1, 2, none⟩ (.slice none 0 0)).setCell ⟨w.heap.size + 1, 3, none⟩ (.slice Ao' j co')).setCell ⟨w.heap.size + 1, 4, none⟩ (.int .i64 0) = W3 := ⟨_, rfl⟩
              obtain ⟨p0, p1, p2, p3, p4, -⟩ := box5 (box5_store hbx5 hW3)
              have hend := clash_end (a := ⟨0, false, [], mapK (·.2) ((rs.drop P).take j), 0⟩) (a' := ⟨0, false, [], mapK (·.2) ((rs.drop P).take j), 0⟩) HbW.out (Nat.le_succ _) H.out.old (RKept.refl _ _) HRX.out hbx5 (World.ownsRow_nil _ _ _ _) HROW.out hW3 rfl rfl
              rw [Hlist.out] at hend
              have Hend := Lib.hid hend
              clear hend
              clear hbx5
              go_wp2
              refine bodyPost_ret (v := replyV 0 false (.slice none 0 0) (.slice Ao' j co') 0) ?_ rfl ⟨_, rfl, Hend.out⟩
              simp [results, Tryz.results10, go_sem, replyV, p0, p1, p2, p3, p4]
        · have j1 : (lim : Int) ≤ (j : Int) := by omega
          have j2 : decide ((j : Int) < (lim : Int)) = false := by simp; omega
          go_wp2
          go_quiet (fail)
          have hbq : Below w2.heap.size w2 (wr.drewN nq) := below_drews Hbr.out nq
          have hoq : (wr.drewN nq).ownsRow w2.heap.size 55 2 (.slice Ao' j co') j (rowCells ((rs.drop P).take j)) := Hown.out
          obtain ⟨wq, hwq⟩ : ∃ y, wr.drewN nq = y := ⟨_, rfl⟩
          rw [hwq] at hbq hoq
          have hbx5 := Hbx2.out.below hbq (by have := Hlt2.out; omega)
          have hb5 : Below w.heap.size w wq := Hb2.out.trans (hbq.mono Hb2.out.size)
          have HRx := HR2.out.below hbq
          have hrows5 : RowsIs wq B (.slice Ao' j co') (mapK (·.2) ((rs.drop P).take j)) := ⟨(rs.drop P).take j, ⟨own_baseN (own_eqR hoq (by rw [List.length_take, List.length_drop]; have := Hij.out; omega) rfl) (Nat.le_trans H.out.old Hb2.out.size), fun r hr => HRx.recs r (List.mem_of_mem_drop (List.mem_of_mem_take hr))⟩, rfl⟩
          have Hlist : Hid (mapK (·.2) ((rs.drop P).take j) = refScan key.data.toList to.data.toList lim (mapK (·.2) rs)) := Lib.hid (by
            rw [← mapK_scan, refScan, HP.out]
            have hlen : (rs.drop P).length = N - P := by rw [List.length_drop]; omega
            refine congrArg (mapK (fun x : Value × List TVal => x.2)) ?_
            have hij := Hij.out
            obtain rfl : j = lim := by omega
            exact (takeWhile_part Hall.out (by omega)).symm)
          have HbW := Lib.hid hb5
          have HRX := Lib.hid HRx
          have HROW := Lib.hid hrows5
          clear hb5 HRx hrows5 hbq hoq
          rw [hwq]
          obtain ⟨r0, r1, r2, r3, r4, k0, k1, k2, k3, k4⟩ := box5 hbx5
          obtain ⟨W3, hW3⟩ : ∃ W3, ((((wq.setCell ⟨w.heap.size + 1, 0, none⟩ (.int .i64 0)).setCell ⟨w.heap.size + 1, 1, none⟩ (.bool false)).setCell ⟨w.heap.size + 1, 2, none⟩ (.slice none 0 0)).setCell ⟨w.heap.size + 1, 3, none⟩ (.slice Ao' j co')).setCell ⟨w.heap.size + 1, 4, none⟩ (.int .i64 0) = W3 := ⟨_, rfl⟩
          obtain ⟨p0, p1, p2, p3, p4, -⟩ := box5 (box5_store hbx5 hW3)
          have hend := clash_end (a := ⟨0, false, [], mapK (·.2) ((rs.drop P).take j), 0⟩) (a' := ⟨0, false, [], mapK (·.2) ((rs.drop P).take j), 0⟩) HbW.out (Nat.le_succ _) H.out.old (RKept.refl _ _) HRX.out hbx5 (World.ownsRow_nil _ _ _ _) HROW.out hW3 rfl rfl
          rw [Hlist.out] at hend
          have Hend := Lib.hid hend
          clear hend
          clear hbx5
          go_wp2
          refine bodyPost_ret (v := replyV 0 false (.slice none 0 0) (.slice Ao' j co') 0) ?_ rfl ⟨_, rfl, Hend.out⟩
          simp [results, Tryz.results10, go_sem, replyV, p0, p1, p2, p3, p4]
      · have i1 : (N : Int) ≤ (i' : Int) := by omega
        have i2 : decide ((i' : Int) < (N : Int)) = false := by simp; omega
        go_wp2
        go_quiet (fail)
        have hbq : Below w2.heap.size w2 (wr.drewN nq) := below_drews Hbr.out nq
        have hoq : (wr.drewN nq).ownsRow w2.heap.size 55 2 (.slice Ao' j co') j (rowCells ((rs.drop P).take j)) := Hown.out
        obtain ⟨wq, hwq⟩ : ∃ y, wr.drewN nq = y := ⟨_, rfl⟩
        rw [hwq] at hbq hoq
        have hbx5 := Hbx2.out.below hbq (by have := Hlt2.out; omega)
        have hb5 : Below w.heap.size w wq := Hb2.out.trans (hbq.mono Hb2.out.size)
        have HRx := HR2.out.below hbq
        have hrows5 : RowsIs wq B (.slice Ao' j co') (mapK (·.2) ((rs.drop P).take j)) := ⟨(rs.drop P).take j, ⟨own_baseN (own_eqR hoq (by rw [List.length_take, List.length_drop]; have := Hij.out; omega) rfl) (Nat.le_trans H.out.old Hb2.out.size), fun r hr => HRx.recs r (List.mem_of_mem_drop (List.mem_of_mem_take hr))⟩, rfl⟩
        have Hlist : Hid (mapK (·.2) ((rs.drop P).take j) = refScan key.data.toList to.data.toList lim (mapK (·.2) rs)) := Lib.hid (by
          rw [← mapK_scan, refScan, HP.out]
          have hlen : (rs.drop P).length = N - P := by rw [List.length_drop]; omega
          refine congrArg (mapK (fun x : Value × List TVal => x.2)) ?_
          have hij := Hij.out
          exact takeWhile_len Hall.out (by omega) (fun y hy => by rw [List.getElem?_eq_none (by omega)] at hy; cases hy) hjl)
        have HbW := Lib.hid hb5
        have HRX := Lib.hid HRx
        have HROW := Lib.hid hrows5
        clear hb5 HRx hrows5 hbq hoq
        rw [hwq]
        obtain ⟨r0, r1, r2, r3, r4, k0, k1, k2, k3, k4⟩ := box5 hbx5
        obtain ⟨W3, hW3⟩ : ∃ W3, ((((wq.setCell ⟨w.heap.size + 1, 0, none⟩ (.int .i64 0)).setCell ⟨w.heap.size + 1, 1, none⟩ (.bool false)).setCell ⟨w.heap.size + 1, 2, none⟩ (.slice none 0 0)).setCell ⟨w.heap.size + 1, 3, none⟩ (.slice Ao' j co')).setCell ⟨w.heap.size + 1, 4, none⟩ (.int .i64 0) = W3 := ⟨_, rfl⟩
        obtain ⟨p0, p1, p2, p3, p4, -⟩ := box5 (box5_store hbx5 hW3)
        have hend := clash_end (a := ⟨0, false, [], mapK (·.2) ((rs.drop P).take j), 0⟩) (a' := ⟨0, false, [], mapK (·.2) ((rs.drop P).take j), 0⟩) HbW.out (Nat.le_succ _) H.out.old (RKept.refl _ _) HRX.out hbx5 (World.ownsRow_nil _ _ _ _) HROW.out hW3 rfl rfl
        rw [Hlist.out] at hend
        have Hend := Lib.hid hend
        clear hend
        clear hbx5
        go_wp2
        refine bodyPost_ret (v := replyV 0 false (.slice none 0 0) (.slice Ao' j co') 0) ?_ rfl ⟨_, rfl, Hend.out⟩
        simp [results, Tryz.results10, go_sem, replyV, p0, p1, p2, p3, p4]
  | false =>
    have Hxk : Hid ((getK key.data.toList (mapK (·.2) rs)).getD [] = []) := Lib.hid (by
      have h1 := His.out
      cases e : getK key.data.toList (mapK (·.2) rs) with
      | none => rfl
      | some x => rw [e] at h1; cases h1)
    have Hrw2 := Lib.hid hrw
    have hPle : P ≤ N := by rw [← hwl, ← HP.out]; exact posK_le _ _
    have hNb : N ≤ 1000 := by have := Hl.out; omega
    go_wp2
    go_loopw [9, 10] (fun ov i wr => ∃ (i' j : Nat), i' = P + j ∧ i' ≤ N ∧ j ≤ lim ∧ i = .int .i64 (i' : Int) ∧ wr.ownsRow w2.heap.size 55 2 ov j (rowCells ((rs.drop P).take j)) ∧ Hid (∀ q, q < j → ∀ x, (rs.drop P)[q]? = some x → (decide (to.data.toList = []) || decide (x.1 < to.data.toList)) = true) ∧ Below w2.heap.size w2 wr) (fun _ i _ => N - (intOf i).toNat)
    case atStart => exact ⟨P, 0, by omega, hPle, by omega, rfl, World.ownsRow_nil _ _ _ _, Lib.hid (fun q hq => by omega), Below.refl _ _⟩
    case round =>
      obtain ⟨i', j, hij, hiN, hjl, rfl, hown, Hall, hbr⟩ := hrel
      have Hown := Lib.hid hown
      have Hbr := Lib.hid hbr
      have HRr := Lib.hid (HR2.out.below hbr)
      obtain ⟨Ao', co', rfl, -⟩ := own_sliceN hown
      have Hij := Lib.hid hij
      have t0 := HRr.out.cells.1
      rw [hre] at t0
      obtain ⟨b0, b1, b2, b3, b4, b5, b6, b7, b8, b9, b10, b11⟩ := box12R (Hbo2.out.below hbr Hbo2.out.lt)
      have i0 : (0 : Int) ≤ (i' : Int) := by omega
      clear hown hbr hij
      by_cases hiN' : i' < N
      · have i1 : (i' : Int) < (N : Int) := by omega
        by_cases hjl' : j < lim
        · have j1 : (j : Int) < (lim : Int) := by omega
          obtain ⟨x, hx⟩ : ∃ x, rs[i']? = some x := ⟨_, List.getElem?_eq_getElem (by omega)⟩
          have hrr := HRr.out.rows
          rw [hre, hwl] at hrr
          obtain ⟨ak, e2, q0⟩ := key_cell hrr hiN' hx
          obtain ⟨am, e3, q1⟩ := row_cellR hrr hiN' hx
          cases e2
          cases e3
          obtain ⟨Av, cv, ev, -⟩ := own_sliceN (HRr.out.recs x (List.mem_of_getElem? hx))
          obtain ⟨zv, hzv⟩ : ∃ z, x.2.2.length = z := ⟨_, rfl⟩
          rw [hzv] at ev
          rw [ev] at q1
          unfold encStr at q0
          have Hxl : Hid ((rs.drop P)[j]? = some x) := Lib.hid (by rw [List.getElem?_drop, ← Hij.out]; exact hx)
          have Hev := Lib.hid ev
          clear hx hrr ev hzv
          by_cases hte : to.data.toList = []
          · have te : (to.toList == []) = true := by rw [Lib.toList_data, hte]; rfl
            have Hp : Hid ((decide (to.data.toList = []) || decide (x.1 < to.data.toList)) = true) := Lib.hid (by rw [decide_eq_true hte]; rfl)
            go_wp2
            go_quiet (fail)
            have q0' : (wr.drewN nq).cell? (ak.add (i' * 2)) = some (.string ⟨x.1.toArray⟩) := q0
            have q1' : (wr.drewN nq).cell? ⟨(ak.add (i' * 2)).block, (ak.add (i' * 2)).off + 1, none⟩ = some (.slice Av zv cv) := q1
            have t0' : (wr.drewN nq).cell? ⟨tb, 0, none⟩ = some (.slice (some ak) N cw) := t0
            have Hbq : Hid (Below w2.heap.size w2 (wr.drewN nq)) := Lib.hid (below_drews Hbr.out nq)
            have Hoq : Hid ((wr.drewN nq).ownsRow w2.heap.size 55 2 (.slice Ao' j co') j (rowCells ((rs.drop P).take j))) := Lib.hid Hown.out
            obtain ⟨wq, hwq⟩ : ∃ y, wr.drewN nq = y := ⟨_, rfl⟩
            rw [hwq] at q0' q1' t0' Hbq Hoq
            rw [hwq]
            clear t0 b0 b1 b2 b3 b4 b5 b6 b7 b8 b9 b10 b11 q0 q1 te
            go_wp2_with (at_builtin; refine wpList_append_hasN rfl (.tmp 133) (.tmp 141) _ rfl 55 row_elem (by omega) Tryz.underlying33 rfl (own_belowN Hoq.out (below_alloc _ _)) rfl (Has.lit wq #[.string ⟨x.1.toArray⟩, .slice Av zv cv] _) (by intro u hu; simp at hu; rcases hu with rfl | rfl <;> rfl) (by simp only [maxLen]; omega) (by omega) (by have := Hbq.out.size; simp; omega) ?_; intro v3 x4 ho3 hg3 hz3; have BX : Below w2.heap.size w2 (wq.alloc (.cells #[.string ⟨x.1.toArray⟩, .slice Av zv cv] 55)) := Hbq.out.trans ((below_alloc _ _).mono Hbq.out.size); have OA : (wq.alloc (.cells #[.string ⟨x.1.toArray⟩, .slice Av zv cv] 55)).ownsRow w2.heap.size 55 2 (.slice Ao' j co') j (rowCells ((rs.drop P).take j)) := own_belowN Hoq.out (below_alloc _ _); have B4 : Hid (Below w2.heap.size w2 x4) := Lib.hid (BX.grown hg3 BX.size (fun g e => (OA.lt g e).1)); have O3 : Hid (x4.ownsRow w2.heap.size 55 2 v3 (j + 1) (rowCells ((rs.drop P).take (j + 1)))) := Lib.hid (own_eqR ho3 rfl (by rw [List.take_add_one, Hxl.out, rowCells_app]; simp [rowCells, encStr, Hev.out])); clear ho3 hg3 hz3 BX OA)
            go_roundw
            case rel => exact ⟨i' + 1, j + 1, by have := Hij.out; omega, by omega, by omega, by go_num, O3.out, Lib.hid (fun q hq y hy => by
                by_cases hqj : q < j
                · exact Hall.out q hqj y hy
                · obtain rfl : q = j := by omega
                  rw [Hxl.out] at hy
                  injection hy with hy
                  subst hy
                  exact Hp.out), B4.out⟩
            case measure => simp [intOf]; omega
          · have te : (to.toList == []) = false := by rw [Lib.toList_data]; simpa using hte
            by_cases hls : x.1 < to.data.toList
            · have hless : Op.bytesLess x.1 to.toList = true := by
                rw [bytesLess_lt, Lib.toList_data]
                exact decide_eq_true hls
              have Hp : Hid ((decide (to.data.toList = []) || decide (x.1 < to.data.toList)) = true) := Lib.hid (by rw [decide_eq_true hls, Bool.or_true])
              go_wp2
              go_quiet (fail)
              have q0' : (wr.drewN nq).cell? (ak.add (i' * 2)) = some (.string ⟨x.1.toArray⟩) := q0
              have q1' : (wr.drewN nq).cell? ⟨(ak.add (i' * 2)).block, (ak.add (i' * 2)).off + 1, none⟩ = some (.slice Av zv cv) := q1
              have t0' : (wr.drewN nq).cell? ⟨tb, 0, none⟩ = some (.slice (some ak) N cw) := t0
              have Hbq : Hid (Below w2.heap.size w2 (wr.drewN nq)) := Lib.hid (below_drews Hbr.out nq)
              have Hoq : Hid ((wr.drewN nq).ownsRow w2.heap.size 55 2 (.slice Ao' j co') j (rowCells ((rs.drop P).take j))) := Lib.hid Hown.out
              obtain ⟨wq, hwq⟩ : ∃ y, wr.drewN nq = y := ⟨_, rfl⟩
              rw [hwq] at q0' q1' t0' Hbq Hoq
              rw [hwq]
              clear t0 b0 b1 b2 b3 b4 b5 b6 b7 b8 b9 b10 b11 q0 q1 te
              go_wp2_with (at_builtin; refine wpList_append_hasN rfl (.tmp 133) (.tmp 141) _ rfl 55 row_elem (by omega) Tryz.underlying33 rfl (own_belowN Hoq.out (below_alloc _ _)) rfl (Has.lit wq #[.string ⟨x.1.toArray⟩, .slice Av zv cv] _) (by intro u hu; simp at hu; rcases hu with rfl | rfl <;> rfl) (by simp only [maxLen]; omega) (by omega) (by have := Hbq.out.size; simp; omega) ?_; intro v3 x4 ho3 hg3 hz3; have BX : Below w2.heap.size w2 (wq.alloc (.cells #[.string ⟨x.1.toArray⟩, .slice Av zv cv] 55)) := Hbq.out.trans ((below_alloc _ _).mono Hbq.out.size); have OA : (wq.alloc (.cells #[.string ⟨x.1.toArray⟩, .slice Av zv cv] 55)).ownsRow w2.heap.size 55 2 (.slice Ao' j co') j (rowCells ((rs.drop P).take j)) := own_belowN Hoq.out (below_alloc _ _); have B4 : Hid (Below w2.heap.size w2 x4) := Lib.hid (BX.grown hg3 BX.size (fun g e => (OA.lt g e).1)); have O3 : Hid (x4.ownsRow w2.heap.size 55 2 v3 (j + 1) (rowCells ((rs.drop P).take (j + 1)))) := Lib.hid (own_eqR ho3 rfl (by rw [List.take_add_one, Hxl.out, rowCells_app]; simp [rowCells, encStr, Hev.out])); clear ho3 hg3 hz3 BX OA)
              go_roundw
              case rel => exact ⟨i' + 1, j + 1, by have := Hij.out; omega, by omega, by omega, by go_num, O3.out, Lib.hid (fun q hq y hy => by
                  by_cases hqj : q < j
                  · exact Hall.out q hqj y hy
                  · obtain rfl : q = j := by omega
                    rw [Hxl.out] at hy
                    injection hy with hy
                    subst hy
                    exact Hp.out), B4.out⟩
              case measure => simp [intOf]; omega
            · have hless : Op.bytesLess x.1 to.toList = false := by
                rw [bytesLess_lt, Lib.toList_data]
                exact decide_eq_false hls
              have Hp : Hid (∀ y, (rs.drop P)[j]? = some y → (decide (to.data.toList = []) || decide (y.1 < to.data.toList)) = false) := Lib.hid (fun y hy => by
                rw [Hxl.out] at hy
                injection hy with hy
                subst hy
                rw [decide_eq_false hte, decide_eq_false hls]; rfl)
              go_wp2
              go_quiet (fail)
              have hbq : Below w2.heap.size w2 (wr.drewN nq) := below_drews Hbr.out nq
              have hoq : (wr.drewN nq).ownsRow w2.heap.size 55 2 (.slice Ao' j co') j (rowCells ((rs.drop P).take j)) := Hown.out
              obtain ⟨wq, hwq⟩ : ∃ y, wr.drewN nq = y := ⟨_, rfl⟩
              rw [hwq] at hbq hoq
              have hbx5 := Hbx2.out.below hbq (by have := Hlt2.out; omega)
              have hb5 : Below w.heap.size w wq := Hb2.out.trans (hbq.mono Hb2.out.size)
              have HRx := HR2.out.below hbq
              have hrows5 : RowsIs wq B (.slice Ao' j co') (mapK (·.2) ((rs.drop P).take j)) := ⟨(rs.drop P).take j, ⟨own_baseN (own_eqR hoq (by rw [List.length_take, List.length_drop]; have := Hij.out; omega) rfl) (Nat.le_trans H.out.old Hb2.out.size), fun r hr => HRx.recs r (List.mem_of_mem_drop (List.mem_of_mem_take hr))⟩, rfl⟩
              have Hlist : Hid (mapK (·.2) ((rs.drop P).take j) = refScan key.data.toList to.data.toList lim (mapK (·.2) rs)) := Lib.hid (by
                rw [← mapK_scan, refScan, HP.out]
                have hlen : (rs.drop P).length = N - P := by rw [List.length_drop]; omega
                refine congrArg (mapK (fun x : Value × List TVal => x.2)) ?_
                have hij := Hij.out
                exact takeWhile_len Hall.out (by omega) Hp.out hjl)
              have HbW := Lib.hid hb5
              have HRX := Lib.hid HRx
              have HROW := Lib.hid hrows5
              clear hb5 HRx hrows5 hbq hoq
              rw [hwq]
              obtain ⟨r0, r1, r2, r3, r4, k0, k1, k2, k3, k4⟩ := box5 hbx5
              obtain ⟨W3, hW3⟩ : ∃ W3, ((((wq.setCell ⟨w.heap.size + 1, 0, none⟩ (.int .i64 0)).setCell ⟨w.heap.size + 1, 1, none⟩ (.bool false)).setCell ⟨w.heap.size + 1, 2, none⟩ (.slice none 0 0)).setCell ⟨w.heap.size + 1, 3, none⟩ (.slice Ao' j co')).setCell ⟨w.heap.size + 1, 4, none⟩ (.int .i64 0) = W3 := ⟨_, rfl⟩
              obtain ⟨p0, p1, p2, p3, p4, -⟩ := box5 (box5_store hbx5 hW3)
              have hend := clash_end (a := ⟨0, false, [], mapK (·.2) ((rs.drop P).take j), 0⟩) (a' := ⟨0, false, [], mapK (·.2) ((rs.drop P).take j), 0⟩) HbW.out (Nat.le_succ _) H.out.old (RKept.refl _ _) HRX.out hbx5 (World.ownsRow_nil _ _ _ _) HROW.out hW3 rfl rfl
              rw [Hlist.out] at hend
              have Hend := Lib.hid hend
              clear hend
              clear hbx5
              go_wp2
              refine bodyPost_ret (v := replyV 0 false (.slice none 0 0) (.slice Ao' j co') 0) ?_ rfl ⟨_, rfl, Hend.out⟩
              simp [results, Tryz.results10, go_sem, replyV, p0, p1, p2, p3, p4]
        · have j1 : (lim : Int) ≤ (j : Int) := by omega
          have j2 : decide ((j : Int) < (lim : Int)) = false := by simp; omega
          go_wp2
          go_quiet (fail)
          have hbq : Below w2.heap.size w2 (wr.drewN nq) := below_drews Hbr.out nq
          have hoq : (wr.drewN nq).ownsRow w2.heap.size 55 2 (.slice Ao' j co') j (rowCells ((rs.drop P).take j)) := Hown.out
          obtain ⟨wq, hwq⟩ : ∃ y, wr.drewN nq = y := ⟨_, rfl⟩
          rw [hwq] at hbq hoq
          have hbx5 := Hbx2.out.below hbq (by have := Hlt2.out; omega)
          have hb5 : Below w.heap.size w wq := Hb2.out.trans (hbq.mono Hb2.out.size)
          have HRx := HR2.out.below hbq
          have hrows5 : RowsIs wq B (.slice Ao' j co') (mapK (·.2) ((rs.drop P).take j)) := ⟨(rs.drop P).take j, ⟨own_baseN (own_eqR hoq (by rw [List.length_take, List.length_drop]; have := Hij.out; omega) rfl) (Nat.le_trans H.out.old Hb2.out.size), fun r hr => HRx.recs r (List.mem_of_mem_drop (List.mem_of_mem_take hr))⟩, rfl⟩
          have Hlist : Hid (mapK (·.2) ((rs.drop P).take j) = refScan key.data.toList to.data.toList lim (mapK (·.2) rs)) := Lib.hid (by
            rw [← mapK_scan, refScan, HP.out]
            have hlen : (rs.drop P).length = N - P := by rw [List.length_drop]; omega
            refine congrArg (mapK (fun x : Value × List TVal => x.2)) ?_
            have hij := Hij.out
            obtain rfl : j = lim := by omega
            exact (takeWhile_part Hall.out (by omega)).symm)
          have HbW := Lib.hid hb5
          have HRX := Lib.hid HRx
          have HROW := Lib.hid hrows5
          clear hb5 HRx hrows5 hbq hoq
          rw [hwq]
          obtain ⟨r0, r1, r2, r3, r4, k0, k1, k2, k3, k4⟩ := box5 hbx5
          obtain ⟨W3, hW3⟩ : ∃ W3, ((((wq.setCell ⟨w.heap.size + 1, 0, none⟩ (.int .i64 0)).setCell ⟨w.heap.size + 1, 1, none⟩ (.bool false)).setCell ⟨w.heap.size + 1, 2, none⟩ (.slice none 0 0)).setCell ⟨w.heap.size + 1, 3, none⟩ (.slice Ao' j co')).setCell ⟨w.heap.size + 1, 4, none⟩ (.int .i64 0) = W3 := ⟨_, rfl⟩
          obtain ⟨p0, p1, p2, p3, p4, -⟩ := box5 (box5_store hbx5 hW3)
          have hend := clash_end (a := ⟨0, false, [], mapK (·.2) ((rs.drop P).take j), 0⟩) (a' := ⟨0, false, [], mapK (·.2) ((rs.drop P).take j), 0⟩) HbW.out (Nat.le_succ _) H.out.old (RKept.refl _ _) HRX.out hbx5 (World.ownsRow_nil _ _ _ _) HROW.out hW3 rfl rfl
          rw [Hlist.out] at hend
          have Hend := Lib.hid hend
          clear hend
          clear hbx5
          go_wp2
          refine bodyPost_ret (v := replyV 0 false (.slice none 0 0) (.slice Ao' j co') 0) ?_ rfl ⟨_, rfl, Hend.out⟩
          simp [results, Tryz.results10, go_sem, replyV, p0, p1, p2, p3, p4]
      · have i1 : (N : Int) ≤ (i' : Int) := by omega
        have i2 : decide ((i' : Int) < (N : Int)) = false := by simp; omega
        go_wp2
        go_quiet (fail)
        have hbq : Below w2.heap.size w2 (wr.drewN nq) := below_drews Hbr.out nq
        have hoq : (wr.drewN nq).ownsRow w2.heap.size 55 2 (.slice Ao' j co') j (rowCells ((rs.drop P).take j)) := Hown.out
        obtain ⟨wq, hwq⟩ : ∃ y, wr.drewN nq = y := ⟨_, rfl⟩
        rw [hwq] at hbq hoq
        have hbx5 := Hbx2.out.below hbq (by have := Hlt2.out; omega)
        have hb5 : Below w.heap.size w wq := Hb2.out.trans (hbq.mono Hb2.out.size)
        have HRx := HR2.out.below hbq
        have hrows5 : RowsIs wq B (.slice Ao' j co') (mapK (·.2) ((rs.drop P).take j)) := ⟨(rs.drop P).take j, ⟨own_baseN (own_eqR hoq (by rw [List.length_take, List.length_drop]; have := Hij.out; omega) rfl) (Nat.le_trans H.out.old Hb2.out.size), fun r hr => HRx.recs r (List.mem_of_mem_drop (List.mem_of_mem_take hr))⟩, rfl⟩
        have Hlist : Hid (mapK (·.2) ((rs.drop P).take j) = refScan key.data.toList to.data.toList lim (mapK (·.2) rs)) := Lib.hid (by
          rw [← mapK_scan, refScan, HP.out]
          have hlen : (rs.drop P).length = N - P := by rw [List.length_drop]; omega
          refine congrArg (mapK (fun x : Value × List TVal => x.2)) ?_
          have hij := Hij.out
          exact takeWhile_len Hall.out (by omega) (fun y hy => by rw [List.getElem?_eq_none (by omega)] at hy; cases hy) hjl)
        have HbW := Lib.hid hb5
        have HRX := Lib.hid HRx
        have HROW := Lib.hid hrows5
        clear hb5 HRx hrows5 hbq hoq
        rw [hwq]
        obtain ⟨r0, r1, r2, r3, r4, k0, k1, k2, k3, k4⟩ := box5 hbx5
        obtain ⟨W3, hW3⟩ : ∃ W3, ((((wq.setCell ⟨w.heap.size + 1, 0, none⟩ (.int .i64 0)).setCell ⟨w.heap.size + 1, 1, none⟩ (.bool false)).setCell ⟨w.heap.size + 1, 2, none⟩ (.slice none 0 0)).setCell ⟨w.heap.size + 1, 3, none⟩ (.slice Ao' j co')).setCell ⟨w.heap.size + 1, 4, none⟩ (.int .i64 0) = W3 := ⟨_, rfl⟩
        obtain ⟨p0, p1, p2, p3, p4, -⟩ := box5 (box5_store hbx5 hW3)
        have hend := clash_end (a := ⟨0, false, [], mapK (·.2) ((rs.drop P).take j), 0⟩) (a' := ⟨0, false, [], mapK (·.2) ((rs.drop P).take j), 0⟩) HbW.out (Nat.le_succ _) H.out.old (RKept.refl _ _) HRX.out hbx5 (World.ownsRow_nil _ _ _ _) HROW.out hW3 rfl rfl
        rw [Hlist.out] at hend
        have Hend := Lib.hid hend
        clear hend
        clear hbx5
        go_wp2
        refine bodyPost_ret (v := replyV 0 false (.slice none 0 0) (.slice Ao' j co') 0) ?_ rfl ⟨_, rfl, Hend.out⟩
        simp [results, Tryz.results10, go_sem, replyV, p0, p1, p2, p3, p4]
end
end Go.Proofs.YtknfjajmnlpfjaaGreat

namespace Go.Proofs.YtknfjajmnlpfjaaGreat

theorem rowsT_sub {M : Kv (List TVal)} (h : Rise M) : ∀ {l : Kv (List TVal)}, (∀ x ∈ l, x ∈ M) → rowsT M (l.map (·.1)) = l
  | [], _ => rfl
  | y :: l, hl => by
    have ih := rowsT_sub h (l := l) fun x hx => hl x (List.mem_cons_of_mem _ hx)
    have hy : getK y.1 M = some y.2 := getK_of_mem h (hl y List.mem_cons_self)
    simp only [rowsT, List.map_cons] at ih ⊢
    rw [ih, hy]
    rfl
theorem filter_while {α : Type} {q : List UInt8 → Bool} (hq : ∀ a b : List UInt8, a < b → q b = true → q a = true) : ∀ {l : Kv α}, Rise l → l.filter (fun x => q x.1) = l.takeWhile fun x => q x.1
  | [], _ => rfl
  | y :: l, h => by
    have h' := List.pairwise_cons.1 h
    by_cases hy : q y.1 = true
    · rw [List.filter_cons_of_pos (p := fun x : List UInt8 × α => q x.1) hy, List.takeWhile_cons_of_pos (p := fun x : List UInt8 × α => q x.1) hy, filter_while hq h'.2]
    · rw [List.filter_cons_of_neg (p := fun x : List UInt8 × α => q x.1) hy, List.takeWhile_cons_of_neg (p := fun x : List UInt8 × α => q x.1) hy, List.filter_eq_nil_iff]
      exact fun x hx e => hy (hq _ _ (h'.1 x hx) e)
theorem filter_scan {α : Type} {f t : List UInt8} : ∀ {M : Kv α}, Rise M → M.filter (fun x => inK f t x.1) = (M.drop (posK f M)).takeWhile fun p => decide (t = []) || decide (p.1 < t)
  | [], _ => by simp
  | y :: l, h => by
    have h' := List.pairwise_cons.1 h
    by_cases hy : y.1 < f
    · have hi : ¬ inK f t y.1 = true := by
        unfold inK outK
        simp [hy]
      have hp : posK f (y :: l) = posK f l + 1 := by simp [posK, hy]
      rw [List.filter_cons_of_neg (p := fun x : List UInt8 × α => inK f t x.1) hi, hp, List.drop_succ_cons, filter_scan h'.2]
    · have hp : posK f (y :: l) = 0 := by simp [posK, hy]
      rw [hp, List.drop_zero, ← filter_while (q := fun k => decide (t = []) || decide (k < t)) ?_ h]
      · refine List.filter_congr fun x hx => ?_
        have hx' : ¬ x.1 < f := by
          rcases List.mem_cons.1 hx with rfl | hx
          · exact hy
          · exact fun e => hy (List.lt_trans (h'.1 x hx) e)
        unfold inK outK
        by_cases ht : t = [] <;> by_cases hxt : x.1 < t <;> simp [hx', ht, hxt]
      · intro a b hab hb
        simp only [Bool.or_eq_true, decide_eq_true_eq] at hb ⊢
        rcases hb with hb | hb
        · exact .inl hb
        · exact .inr (List.lt_trans hab hb)
/-- the store's scan answers as the document's store does -/
theorem scan_plain {f t : List UInt8} {lim : Nat} {M : Kv (List TVal)} (h : Rise M) : scanA f t lim M = ⟨0, false, [], refScan f t lim M, 0⟩ := by
  unfold scanA refScan
  have e : ((M.map (·.1)).filter (inK f t)).take lim = ((M.filter fun x => inK f t x.1).take lim).map (·.1) := by
    rw [List.filter_map, List.map_take]
    rfl
  rw [e, rowsT_sub h fun x hx => (List.mem_filter.1 (List.mem_of_mem_take hx)).1, filter_scan h]
end Go.Proofs.YtknfjajmnlpfjaaGreat

namespace Go.Proofs.YtknfjajmnlpfjaaGreat

/-- the numbers and fields of those places that are not empty -/
def twinFrom (a : Int) : List (List Int) → List (Int × List Int)
  | [] => []
  | fs :: l => if fs = [] then twinFrom (a + 1) l else (a + 1, fs) :: twinFrom (a + 1) l
theorem twin_app (fs : List Int) (h : fs ≠ []) : ∀ (l : List (List Int)) (a : Int), twinFrom a (l ++ [fs]) = twinFrom a l ++ [(a + l.length + 1, fs)]
  | [], a => by simp [twinFrom, h]
  | x :: l, a => by
    have ih := twin_app fs h l (a + 1)
    have e : a + 1 + (l.length : Int) + 1 = a + ((x :: l).length : Nat) + 1 := by simp only [List.length_cons]; omega
    rw [e] at ih
    simp only [List.cons_append, twinFrom]
    by_cases hx : x = []
    · rw [if_pos hx, if_pos hx, ih]
    · rw [if_neg hx, if_neg hx, ih, List.cons_append]
theorem twin_low : ∀ (l : List (List Int)) (a : Int), ∀ x ∈ twinFrom a l, a < x.1
  | [], a, x, hx => by simp [twinFrom] at hx
  | y :: l, a, x, hx => by
    unfold twinFrom at hx
    by_cases hy : y = []
    · rw [if_pos hy] at hx
      have := twin_low l (a + 1) x hx
      omega
    · rw [if_neg hy] at hx
      rcases List.mem_cons.1 hx with rfl | hx
      · simp only; omega
      · have := twin_low l (a + 1) x hx
        omega
/-- a place emptied is a number less -/
theorem twin_set : ∀ (l : List (List Int)) (k : Nat) (a : Int), twinFrom a (l.set k []) = (twinFrom a l).filter fun x => decide (x.1 ≠ a + k + 1)
  | [], k, a => by simp [twinFrom]
  | x :: l, 0, a => by
    have hall : (twinFrom (a + 1) l).filter (fun x => decide (x.1 ≠ a + (0 : Nat) + 1)) = twinFrom (a + 1) l := List.filter_eq_self.2 fun y hy => by
      have := twin_low l (a + 1) y hy
      simp; omega
    simp only [List.set_cons_zero, twinFrom, if_true]
    by_cases hx : x = []
    · rw [if_pos hx, hall]
    · rw [if_neg hx, List.filter_cons_of_neg (by simp), hall]
  | x :: l, k + 1, a => by
    have ih := twin_set l k (a + 1)
    have e : a + 1 + (k : Int) + 1 = a + ((k + 1 : Nat) : Int) + 1 := by omega
    rw [e] at ih
    simp only [List.set_cons_succ, twinFrom]
    by_cases hx : x = []
    · rw [if_pos hx, if_pos hx, ih]
    · rw [if_neg hx, if_neg hx, ih, List.filter_cons_of_pos (by simp; omega)]
theorem twin_pair : ∀ (l : List (List Int)) (a : Int), (twinFrom a l).Pairwise fun x y => x.1 < y.1
  | [], a => List.Pairwise.nil
  | x :: l, a => by
    unfold twinFrom
    by_cases hx : x = []
    · rw [if_pos hx]
      exact twin_pair l (a + 1)
    · rw [if_neg hx]
      exact List.pairwise_cons.2 ⟨fun y hy => twin_low l (a + 1) y hy, twin_pair l (a + 1)⟩
theorem twin_mem : ∀ (l : List (List Int)) (a id : Int) (fs : List Int), (id, fs) ∈ twinFrom a l ↔ ∃ k : Nat, l[k]? = some fs ∧ fs ≠ [] ∧ id = a + k + 1
  | [], a, id, fs => by simp [twinFrom]
  | x :: l, a, id, fs => by
    have ih := twin_mem l (a + 1) id fs
    have hsplit : (∃ k : Nat, (x :: l)[k]? = some fs ∧ fs ≠ [] ∧ id = a + k + 1) ↔ (x = fs ∧ fs ≠ [] ∧ id = a + 1) ∨ ∃ k : Nat, l[k]? = some fs ∧ fs ≠ [] ∧ id = a + 1 + k + 1 := by
      constructor
      · rintro ⟨k, h1, h2, h3⟩
        cases k with
        | zero => exact .inl ⟨by simpa using h1, h2, by simpa using h3⟩
        | succ k => exact .inr ⟨k, by simpa using h1, h2, by omega⟩
      · rintro (⟨h1, h2, h3⟩ | ⟨k, h1, h2, h3⟩)
        · exact ⟨0, by simp [h1], h2, by simp [h3]⟩
        · exact ⟨k + 1, by simpa using h1, h2, by omega⟩
    rw [hsplit, ← ih, show twinFrom a (x :: l) = if x = [] then twinFrom (a + 1) l else (a + 1, x) :: twinFrom (a + 1) l from rfl]
    by_cases hx : x = []
    · rw [if_pos hx]
      constructor
      · exact .inr
      · rintro (⟨h1, h2, -⟩ | h)
        · exact absurd (h1 ▸ hx) h2
        · exact h
    · rw [if_neg hx, List.mem_cons]
      constructor
      · rintro (h | h)
        · injection h with h1 h2
          subst h2
          exact .inl ⟨rfl, hx, h1⟩
        · exact .inr h
      · rintro (⟨h1, -, h3⟩ | h)
        · exact .inl (by rw [h1, h3])
        · exact .inr h
/-- an index that the document's store has is one that the program's list holds -/
theorem twin_idxF (FF : List (List Int)) (id : Int) (fs : List Int) : (id, fs) ∈ twinFrom 0 FF ↔ idxF id FF = some fs := by
  rw [twin_mem]
  unfold idxF
  constructor
  · rintro ⟨k, h1, h2, rfl⟩
    have e : (0 + (k : Int) + 1 - 1).toNat = k := by omega
    rw [if_pos (by omega), e, h1]
    simp only [if_neg h2]
  · intro h
    by_cases h1 : 1 ≤ id
    · rw [if_pos h1] at h
      cases e : FF[(id - 1).toNat]? with
      | none => rw [e] at h; cases h
      | some x =>
        rw [e] at h
        simp only at h
        by_cases hx : x = []
        · rw [if_pos hx] at h; cases h
        · rw [if_neg hx] at h
          injection h with h
          subst h
          exact ⟨_, e, hx, by omega⟩
    · rw [if_neg h1] at h; cases h
theorem idxT_erase (id : Int) : ∀ {I : List (Int × List Int)}, (I.Pairwise fun x y => x.1 < y.1) → I.eraseIdx (idxT id I) = I.filter fun x => decide (x.1 ≠ id)
  | [], _ => rfl
  | x :: l, h => by
    have h' := List.pairwise_cons.1 h
    unfold idxT
    by_cases hx : x.1 = id
    · rw [if_pos hx, List.eraseIdx_cons_zero, List.filter_cons_of_neg (by simp [hx])]
      exact (List.filter_eq_self.2 fun y hy => by have := h'.1 y hy; simp; omega).symm
    · rw [if_neg hx, List.eraseIdx_cons_succ, List.filter_cons_of_pos (by simp [hx]), idxT_erase id h'.2]
theorem idxT_lt (id : Int) : ∀ {I : List (Int × List Int)}, idxT id I < I.length ↔ ∃ fs, (id, fs) ∈ I
  | [] => by simp [idxT]
  | x :: l => by
    have ih := idxT_lt id (I := l)
    rw [show idxT id (x :: l) = if x.1 = id then 0 else idxT id l + 1 from rfl]
    by_cases hx : x.1 = id
    · rw [if_pos hx]
      exact ⟨fun _ => ⟨x.2, by rw [← hx]; exact List.mem_cons_self⟩, fun _ => by simp⟩
    · rw [if_neg hx, List.length_cons]
      constructor
      · intro h
        obtain ⟨fs, hf⟩ := ih.1 (by omega)
        exact ⟨fs, List.mem_cons_of_mem _ hf⟩
      · rintro ⟨fs, hf⟩
        rcases List.mem_cons.1 hf with e | hf
        · exact absurd (by rw [← e]) hx
        · have := ih.2 ⟨fs, hf⟩
          omega
/-- drop, in plain words: the index is there -/
theorem drop_some {FF : List (List Int)} {id : Int} {fs : List Int} (h : idxF id FF = some fs) : dropA id (twinFrom 0 FF) = (⟨0, false, [], [], 0⟩, twinFrom 0 (FF.set (id - 1).toNat [])) := by
  have hm := (twin_idxF FF id fs).2 h
  obtain ⟨k, -, -, e⟩ := (twin_mem FF 0 id fs).1 hm
  have hk : (id - 1).toNat = k := by omega
  unfold dropA
  rw [if_pos ((idxT_lt id).2 ⟨fs, hm⟩), idxT_erase id (twin_pair FF 0), hk, twin_set, e]
/-- drop, in plain words: no such index -/
theorem drop_none {FF : List (List Int)} {id : Int} (h : idxF id FF = none) : dropA id (twinFrom 0 FF) = (⟨7, false, [], [], 0⟩, twinFrom 0 FF) := by
  unfold dropA
  rw [if_neg fun hl => ?_]
  obtain ⟨fs, hm⟩ := (idxT_lt id).1 hl
  rw [(twin_idxF FF id fs).1 hm] at h
  cases h
end Go.Proofs.YtknfjajmnlpfjaaGreat

/- The program's store and the document's, side by side. Condition: both are in memory. -/
import Derived.Test.YtknfjajmnlpfjaaGreatMdS
import Derived.Test.YtknfjajmnlpfjaaGreatMdH
namespace Go.Proofs.YtknfjajmnlpfjaaGreat
open Go.RowKit
open Go.Lib (strCells compareBytes)

section
variable {w : World} {B tb : Nat} {rv xv : Value} {rs : Kv (Value × List TVal)} {F : List (Value × List Int)}
theorem own_eqR7 {w : World} {b m m' : Nat} {v : Value} {xs xs' : List Value} (h : w.ownsRow b 55 2 v m xs) (hm : m = m') (hx : xs = xs') : w.ownsRow b 55 2 v m' xs' := by
  subst hm
  subst hx
  exact h
theorem show_cell {N c i : Nat} {b : Nat} {A : Option Addr} {L : Shw} {y : List UInt8 × List UInt8 × Value × List TVal} (h : w.ownsRow b 80 3 (.slice A N c) N (showCells L)) (hi : i < N) (hy : L[i]? = some y) : ∃ a, A = some a ∧ w.cell? (a.add (i * 3)) = some (encStr y.1) ∧ w.cell? ⟨(a.add (i * 3)).block, (a.add (i * 3)).off + 1, none⟩ = some (encStr y.2.1) ∧ w.cell? ⟨(a.add (i * 3)).block, (a.add (i * 3)).off + 2, none⟩ = some y.2.2.1 := by
  obtain ⟨a, e, -, hc⟩ := (Has.of_ownN h).all (by omega)
  obtain ⟨c0, c1, c2⟩ := showCells_at L i y hy
  refine ⟨a, e, hc _ _ c0, ?_, ?_⟩
  · rw [← addr_step a _ 1 (by omega)]
    exact hc _ _ c1
  · rw [← addr_step a _ 2 (by omega)]
    exact hc _ _ c2
theorem plain_area {id : Int} {fs : List Int} {low high : List TVal} {L : Shw} (hr : Rise L) (hp : L.Perm (areaV id fs low high rs)) : areaL id fs low high (mapK (·.2) rs) (L.map plainP) := by
  refine ⟨?_, ?_⟩
  · unfold Rise
    rw [List.pairwise_map]
    exact hr
  · rw [← areaV_plain]
    exact hp.map _
theorem plain_rows (L : Shw) (n : Nat) : mapK (·.2) ((L.map (·.2)).take n) = ((L.map plainP).map (·.2)).take n := by
  unfold mapK
  rw [← List.map_take, ← List.map_take, ← List.map_take, List.map_map, List.map_map]
  rfl
theorem goods_plain (h : ∀ r ∈ rs, GoodRec r.2.2 ∧ keyOk r.1 = true) : ∀ p ∈ mapK (·.2) rs, GoodRec p.2 ∧ keyOk p.1 = true := fun p hp => by
  obtain ⟨q, hq, rfl⟩ := List.mem_map.1 hp
  exact h q hq
set_option maxRecDepth 100000 in
set_option maxHeartbeats 3200000 in
theorem ref_k6n (h : RSt w B tb rv xv rs F) (C : Nat) (hC : C ≤ w.heap.size) (key to : ByteArray) (rc old low high : List TVal) (id lim sp nd : Int) (fs : List Int) (Ar Ao Af Al Ah : Option Addr) (nr cr no co nf cf nl cl nh ch : Nat)
    (ho : OpIs w C (.agg #[.int .i64 6, .string key, .string to, .slice Ar nr cr, .slice Ao no co, .int .i64 id, .slice Af nf cf, .slice Al nl cl, .slice Ah nh ch, .int .i64 lim, .int .i64 sp, .int .i64 nd]) ⟨6, key, to, rc, old, id, fs, low, high, lim, sp, nd⟩) (hz : checkT ⟨6, key, to, rc, old, id, fs, low, high, lim, sp, nd⟩ = 0) (hl : rs.length ≤ 1000) (hid : idxF id (F.map (·.2)) = none) (hidb : InI64 id) :
    Calls Tryz.prog 10 #[.pointer (some ⟨tb, 0, none⟩), .agg #[.int .i64 6, .string key, .string to, .slice Ar nr cr, .slice Ao no co, .int .i64 id, .slice Af nf cf, .slice Al nl cl, .slice Ah nh ch, .int .i64 lim, .int .i64 sp, .int .i64 nd]] w (RefPost B tb (mapK (·.2) rs) (F.map (·.2)) ⟨7, false, [], [], 0⟩ w) := by
  obtain ⟨w00, hw00⟩ : ∃ w00, w.alloc (.cells #[.int .i64 6, .string key, .string to, .slice Ar nr cr, .slice Ao no co, .int .i64 id, .slice Af nf cf, .slice Al nl cl, .slice Ah nh ch, .int .i64 lim, .int .i64 sp, .int .i64 nd] 39) = w00 := ⟨_, rfl⟩
  have hb00 : Below w.heap.size w w00 := hw00 ▸ below_alloc _ _
  have hbo0 : Box w00 w.heap.size 39 #[.int .i64 6, .string key, .string to, .slice Ar nr cr, .slice Ao no co, .int .i64 id, .slice Af nf cf, .slice Al nl cl, .slice Ah nh ch, .int .i64 lim, .int .i64 sp, .int .i64 nd] := hw00 ▸ Box.made _ _ _
  have hs00 : w00.heap.size = w.heap.size + 1 := by rw [← hw00]; simp
  obtain ⟨w0, hw0⟩ : ∃ w0, w00.alloc (.cells #[.int .i64 0, .bool false, .slice none 0 0, .slice none 0 0, .int .i64 0] 35) = w0 := ⟨_, rfl⟩
  have hb0 : Below w.heap.size w w0 := Below.then hb00 (hw0 ▸ below_alloc _ _)
  have hbx : Box w0 (w.heap.size + 1) 35 #[.int .i64 0, .bool false, .slice none 0 0, .slice none 0 0, .int .i64 0] := hw0 ▸ made_at hs00 _ _
  have hbo : Box w0 w.heap.size 39 #[.int .i64 6, .string key, .string to, .slice Ar nr cr, .slice Ao no co, .int .i64 id, .slice Af nf cf, .slice Al nl cl, .slice Ah nh ch, .int .i64 lim, .int .i64 sp, .int .i64 nd] := hw0 ▸ hbo0.alloc _
  have hsz : w0.heap.size = w.heap.size + 1 + 1 := by rw [← hw0]; simp [hs00]
  have hchk := refCheck_any _ _ C w0 (Nat.le_trans hC hb0.size) (ho.belowOf hb0 hC)
  have e0 := hbo.cell 0; have e1 := hbo.cell 1; have e2 := hbo.cell 2; have e3 := hbo.cell 3; have e4 := hbo.cell 4; have e5 := hbo.cell 5
  have e6 := hbo.cell 6; have e7 := hbo.cell 7; have e8 := hbo.cell 8; have e9 := hbo.cell 9; have e10 := hbo.cell 10; have e11 := hbo.cell 11
  have H := Lib.hid h
  have Hbx := Lib.hid hbx
  have Hbo := Lib.hid hbo
  have Hb0 := Lib.hid hb0
  have Hsz := Lib.hid hsz
  have Hchk := Lib.hid hchk
  clear hbo hbo0 hb00 hb0 hbx hsz hchk h ho
  rw [hz] at Hchk
  go_enter Tryz.func10, Tryz.ntmps10
  go_wp2_with fail
  refine Hchk.out.mono ?_
  rintro e w1 ⟨rfl, hb1⟩
  have hbo1 := Hbo.out.below hb1 Hbo.out.lt
  obtain ⟨a0, a1, a2, a3, a4, a5, a6, a7, a8, a9, a10, a11⟩ := box12R hbo1
  have Hbo1 := Lib.hid hbo1
  have Hb1 := Lib.hid hb1
  have Hbw := Lib.hid (Below.trans Hb0.out (hb1.mono (by rw [Hsz.out]; omega)))
  have Hbx1 := Lib.hid (Hbx.out.below hb1 Hbx.out.lt)
  have Hlt1 : Hid (w.heap.size + 1 < w1.heap.size) := Lib.hid (by have := hb1.size; have := Hsz.out; omega)
  clear hbo1 hb1
  have Hfind := Lib.hid (refFind_any (H.out.below Hbw.out) key hl)
  have hrise := H.out.rise
  obtain ⟨P, hP⟩ : ∃ P, posK key.data.toList rs = P := ⟨_, rfl⟩
  obtain ⟨is, his⟩ : ∃ b, (getK key.data.toList rs).isSome = b := ⟨_, rfl⟩
  have hget := getK_pos key.data.toList rs hrise
  rw [hP, his] at Hfind
  rw [hP] at hget
  have HP := Lib.hid hP
  have HS := Lib.hid his
  have Hget := Lib.hid hget
  have Hl := Lib.hid hl
  have His : Hid (is = (getK key.data.toList (mapK (·.2) rs)).isSome) := Lib.hid (by rw [← his]; exact (isSome_mapK _ _).symm)
  clear hP his hget hrise hl
  go_wp2_with fail
  refine Hfind.out.mono ?_
  rintro e w2 ⟨rfl, m2, h2⟩
  have hbo2 := Hbo1.out.below (below_drews (Below.refl w1.heap.size w1) m2) Hbo1.out.lt
  have hbx2 := Hbx1.out.below (below_drews (Below.refl w1.heap.size w1) m2) Hbx1.out.lt
  rw [← h2] at hbo2 hbx2
  have Hb2 : Hid (Below w.heap.size w w2) := Lib.hid (by rw [h2]; exact below_drews Hbw.out m2)
  have Hlt2 : Hid (w.heap.size + 1 < w2.heap.size) := Lib.hid (by rw [h2]; exact Hlt1.out)
  have HR2 : Hid (RSt w2 B tb rv xv rs F) := Lib.hid (H.out.below Hb2.out)
  have Hbx2 := Lib.hid hbx2
  have Hbo2 := Lib.hid hbo2
  have Htb := Lib.hid H.out.lt
  clear h2 a0 a1 a2 a3 a4 a5 a6 a7 a8 a9 a10 a11
  obtain ⟨a0, a1, a2, a3, a4, a5, a6, a7, a8, a9, a10, a11⟩ := box12R hbo2
  obtain ⟨tc0, tc1, -, -⟩ := HR2.out.cells
  have hrw := HR2.out.rows
  obtain ⟨Aw, N, cw, hre, hwl⟩ : ∃ Aw N cw, rv = .slice Aw N cw ∧ rs.length = N := by
    obtain ⟨A', c', e, -⟩ := own_sliceN hrw
    exact ⟨A', _, c', e, rfl⟩
  rw [hre] at tc0
  clear hbo2 hbx2
  cases is with
  | true =>
    obtain ⟨x, hx, hxk⟩ : ∃ x, rs[P]? = some x ∧ getK key.data.toList rs = some x.2 := by
      have h1 := Hget.out
      have h2 := HS.out
      rw [h1] at h2
      cases hp : rs[P]? with
      | none => rw [hp] at h2; cases h2
      | some x =>
        rw [hp] at h1 h2
        refine ⟨x, rfl, ?_⟩
        simp only [Option.bind_some] at h1 h2
        by_cases e : x.1 = key.data.toList
        · rw [if_pos e] at h1
          exact h1
        · rw [if_neg e] at h2
          cases h2
    have hPN : P < N := by rw [← hwl]; exact (List.getElem?_eq_some_iff.1 hx).1
    have hrw' := hrw
    rw [hre, hwl] at hrw'
    obtain ⟨aw, rfl, hcw⟩ := row_cellR hrw' hPN hx
    have hxo := HR2.out.recs x (List.mem_of_getElem? hx)
    obtain ⟨Ax, cx, ex, -⟩ := own_sliceN hxo
    obtain ⟨zx, hzx⟩ : ∃ z, x.2.2.length = z := ⟨_, rfl⟩
    rw [hzx] at ex
    rw [ex] at hcw
    have Hxo : Hid (w2.ownsRow B 53 3 (.slice Ax zx cx) x.2.2.length (valCells x.2.2)) := Lib.hid (by rw [← ex]; exact hxo)
    have Hzx := Lib.hid hzx
    have Hxk : Hid ((getK key.data.toList (mapK (·.2) rs)).getD [] = x.2.2) := Lib.hid (by rw [mapK_get, hxk]; rfl)
    have p0 : (0 : Int) ≤ (P : Int) := by omega
    have p1 : (P : Int) < (N : Int) := by omega
    clear hx hxk hxo ex hrw' hzx
    have Hix := Lib.hid (refIndex_none HR2.out id hid hidb)
    go_wp2_with fail
    refine Hix.out.mono ?_
    rintro e w3 ⟨rfl, hb3⟩
    have hbi := hb3
    obtain ⟨z3, hz3⟩ : ∃ y, w3.alloc (.cells #[.int .i64 0, .slice none 0 0] 74) = y := ⟨_, rfl⟩
    have hbz : Below w3.heap.size w3 z3 := hz3 ▸ below_alloc _ _
    have hbxz : Box z3 w3.heap.size 74 #[.int .i64 0, .slice none 0 0] := hz3 ▸ Box.made _ _ _
    have zc0 := hbxz.cell 0
    have zc1 := hbxz.cell 1
    have zf0 := hbxz.frozen 0
    have zf1 := hbxz.frozen 1
    obtain ⟨y3, hy3⟩ : ∃ y, (z3.setCell ⟨w3.heap.size, 0, none⟩ (.int .i64 0)).setCell ⟨w3.heap.size, 1, none⟩ (.slice none 0 0) = y := ⟨_, rfl⟩
    have hby : Below w3.heap.size w3 y3 := hy3 ▸ (hbz.setCell (Nat.le_refl _) _).setCell (Nat.le_refl _) _
    have Hby : Hid (Below w2.heap.size w2 y3) := Lib.hid (hb3.trans (hby.mono hb3.size))
    have HRy := Lib.hid (HR2.out.below Hby.out)
    have Hbw2 : Hid (Below w.heap.size w y3) := Lib.hid (Hb2.out.trans (Hby.out.mono Hb2.out.size))
    have HXy := Lib.hid (Hbx2.out.below Hby.out Hlt2.out)
    have hOy := Hbo2.out.below Hby.out Hbo2.out.lt
    have HOy := Lib.hid hOy
    clear hb3 hby hbi hbz hbxz a0 a1 a2 a3 a4 a5 a6 a7 a8 a9 a10 a11
    obtain ⟨a0, a1, a2, a3, a4, a5, a6, a7, a8, a9, a10, a11⟩ := box12R hOy
    clear hOy
    have hbx5 := HXy.out
    obtain ⟨r0, r1, r2, r3, r4, k0, k1, k2, k3, k4⟩ := box5 hbx5
    obtain ⟨W3, hW3⟩ : ∃ W3, ((((y3.setCell ⟨w.heap.size + 1, 0, none⟩ (.int .i64 7)).setCell ⟨w.heap.size + 1, 1, none⟩ (.bool false)).setCell ⟨w.heap.size + 1, 2, none⟩ (.slice none 0 0)).setCell ⟨w.heap.size + 1, 3, none⟩ (.slice none 0 0)).setCell ⟨w.heap.size + 1, 4, none⟩ (.int .i64 0) = W3 := ⟨_, rfl⟩
    obtain ⟨p0, p1, p2, p3, p4, -⟩ := box5 (box5_store hbx5 hW3)
    have Hend := Lib.hid (clash_end (a := ⟨7, false, [], [], 0⟩) (a' := ⟨7, false, [], [], 0⟩) Hbw2.out (Nat.le_succ _) H.out.old (RKept.refl _ _) HRy.out hbx5 (World.ownsRow_nil _ _ _ _) (RowsIs.nil _ _) hW3 rfl rfl)
    clear hbx5
    go_wp2
    refine bodyPost_ret (v := replyV 7 false (.slice none 0 0) (.slice none 0 0) 0) ?_ rfl ⟨_, rfl, Hend.out⟩
    simp [results, Tryz.results10, go_sem, replyV, p0, p1, p2, p3, p4]
  | false =>
    have Hxk : Hid ((getK key.data.toList (mapK (·.2) rs)).getD [] = []) := Lib.hid (by
      have h1 := His.out
      cases e : getK key.data.toList (mapK (·.2) rs) with
      | none => rfl
      | some x => rw [e] at h1; cases h1)
    have Hix := Lib.hid (refIndex_none HR2.out id hid hidb)
    go_wp2_with fail
    refine Hix.out.mono ?_
    rintro e w3 ⟨rfl, hb3⟩
    have hbi := hb3
    obtain ⟨z3, hz3⟩ : ∃ y, w3.alloc (.cells #[.int .i64 0, .slice none 0 0] 74) = y := ⟨_, rfl⟩
    have hbz : Below w3.heap.size w3 z3 := hz3 ▸ below_alloc _ _
    have hbxz : Box z3 w3.heap.size 74 #[.int .i64 0, .slice none 0 0] := hz3 ▸ Box.made _ _ _
    have zc0 := hbxz.cell 0
    have zc1 := hbxz.cell 1
    have zf0 := hbxz.frozen 0
    have zf1 := hbxz.frozen 1
    obtain ⟨y3, hy3⟩ : ∃ y, (z3.setCell ⟨w3.heap.size, 0, none⟩ (.int .i64 0)).setCell ⟨w3.heap.size, 1, none⟩ (.slice none 0 0) = y := ⟨_, rfl⟩
    have hby : Below w3.heap.size w3 y3 := hy3 ▸ (hbz.setCell (Nat.le_refl _) _).setCell (Nat.le_refl _) _
    have Hby : Hid (Below w2.heap.size w2 y3) := Lib.hid (hb3.trans (hby.mono hb3.size))
    have HRy := Lib.hid (HR2.out.below Hby.out)
    have Hbw2 : Hid (Below w.heap.size w y3) := Lib.hid (Hb2.out.trans (Hby.out.mono Hb2.out.size))
    have HXy := Lib.hid (Hbx2.out.below Hby.out Hlt2.out)
    have hOy := Hbo2.out.below Hby.out Hbo2.out.lt
    have HOy := Lib.hid hOy
    clear hb3 hby hbi hbz hbxz a0 a1 a2 a3 a4 a5 a6 a7 a8 a9 a10 a11
    obtain ⟨a0, a1, a2, a3, a4, a5, a6, a7, a8, a9, a10, a11⟩ := box12R hOy
    clear hOy
    have hbx5 := HXy.out
    obtain ⟨r0, r1, r2, r3, r4, k0, k1, k2, k3, k4⟩ := box5 hbx5
    obtain ⟨W3, hW3⟩ : ∃ W3, ((((y3.setCell ⟨w.heap.size + 1, 0, none⟩ (.int .i64 7)).setCell ⟨w.heap.size + 1, 1, none⟩ (.bool false)).setCell ⟨w.heap.size + 1, 2, none⟩ (.slice none 0 0)).setCell ⟨w.heap.size + 1, 3, none⟩ (.slice none 0 0)).setCell ⟨w.heap.size + 1, 4, none⟩ (.int .i64 0) = W3 := ⟨_, rfl⟩
    obtain ⟨p0, p1, p2, p3, p4, -⟩ := box5 (box5_store hbx5 hW3)
    have Hend := Lib.hid (clash_end (a := ⟨7, false, [], [], 0⟩) (a' := ⟨7, false, [], [], 0⟩) Hbw2.out (Nat.le_succ _) H.out.old (RKept.refl _ _) HRy.out hbx5 (World.ownsRow_nil _ _ _ _) (RowsIs.nil _ _) hW3 rfl rfl)
    clear hbx5
    go_wp2
    refine bodyPost_ret (v := replyV 7 false (.slice none 0 0) (.slice none 0 0) 0) ?_ rfl ⟨_, rfl, Hend.out⟩
    simp [results, Tryz.results10, go_sem, replyV, p0, p1, p2, p3, p4]
set_option maxRecDepth 100000 in
set_option maxHeartbeats 3200000 in
theorem ref_k6s (h : RSt w B tb rv xv rs F) (k : Nat) (C : Nat) (hC : C ≤ w.heap.size) (key to : ByteArray) (rc old low high : List TVal) (sp nd : Int) (lim : Nat) (fs : List Int) (Ar Ao Af Al Ah : Option Addr) (nr cr no co nf cf nl cl nh ch : Nat)
    (ho : OpIs w C (.agg #[.int .i64 6, .string key, .string to, .slice Ar nr cr, .slice Ao no co, .int .i64 ((k : Int) + 1), .slice Af nf cf, .slice Al nl cl, .slice Ah nh ch, .int .i64 (lim : Int), .int .i64 sp, .int .i64 nd]) ⟨6, key, to, rc, old, (k : Int) + 1, fs, low, high, (lim : Int), sp, nd⟩) (hz : checkT ⟨6, key, to, rc, old, (k : Int) + 1, fs, low, high, (lim : Int), sp, nd⟩ = 0) (hl : rs.length ≤ 1000) (x1 : Value × List Int) (hx1 : F[k]? = some x1) (hx0 : x1.2 ≠ []) (hlo : IsVals w C (.slice Al nl cl) low) (hhi : IsVals w C (.slice Ah nh ch) high) :
    Calls Tryz.prog 10 #[.pointer (some ⟨tb, 0, none⟩), .agg #[.int .i64 6, .string key, .string to, .slice Ar nr cr, .slice Ao no co, .int .i64 ((k : Int) + 1), .slice Af nf cf, .slice Al nl cl, .slice Ah nh ch, .int .i64 (lim : Int), .int .i64 sp, .int .i64 nd]] w (RefPost B tb (mapK (·.2) rs) (F.map (·.2)) (queryA ((k : Int) + 1) (twinFrom 0 (F.map (·.2))) low high lim (mapK (·.2) rs)) w) := by
  obtain ⟨w00, hw00⟩ : ∃ w00, w.alloc (.cells #[.int .i64 6, .string key, .string to, .slice Ar nr cr, .slice Ao no co, .int .i64 ((k : Int) + 1), .slice Af nf cf, .slice Al nl cl, .slice Ah nh ch, .int .i64 (lim : Int), .int .i64 sp, .int .i64 nd] 39) = w00 := ⟨_, rfl⟩
  have hb00 : Below w.heap.size w w00 := hw00 ▸ below_alloc _ _
  have hbo0 : Box w00 w.heap.size 39 #[.int .i64 6, .string key, .string to, .slice Ar nr cr, .slice Ao no co, .int .i64 ((k : Int) + 1), .slice Af nf cf, .slice Al nl cl, .slice Ah nh ch, .int .i64 (lim : Int), .int .i64 sp, .int .i64 nd] := hw00 ▸ Box.made _ _ _
  have hs00 : w00.heap.size = w.heap.size + 1 := by rw [← hw00]; simp
  obtain ⟨w0, hw0⟩ : ∃ w0, w00.alloc (.cells #[.int .i64 0, .bool false, .slice none 0 0, .slice none 0 0, .int .i64 0] 35) = w0 := ⟨_, rfl⟩
  have hb0 : Below w.heap.size w w0 := Below.then hb00 (hw0 ▸ below_alloc _ _)
  have hbx : Box w0 (w.heap.size + 1) 35 #[.int .i64 0, .bool false, .slice none 0 0, .slice none 0 0, .int .i64 0] := hw0 ▸ made_at hs00 _ _
  have hbo : Box w0 w.heap.size 39 #[.int .i64 6, .string key, .string to, .slice Ar nr cr, .slice Ao no co, .int .i64 ((k : Int) + 1), .slice Af nf cf, .slice Al nl cl, .slice Ah nh ch, .int .i64 (lim : Int), .int .i64 sp, .int .i64 nd] := hw0 ▸ hbo0.alloc _
  have hsz : w0.heap.size = w.heap.size + 1 + 1 := by rw [← hw0]; simp [hs00]
  have hchk := refCheck_any _ _ C w0 (Nat.le_trans hC hb0.size) (ho.belowOf hb0 hC)
  have e0 := hbo.cell 0; have e1 := hbo.cell 1; have e2 := hbo.cell 2; have e3 := hbo.cell 3; have e4 := hbo.cell 4; have e5 := hbo.cell 5
  have e6 := hbo.cell 6; have e7 := hbo.cell 7; have e8 := hbo.cell 8; have e9 := hbo.cell 9; have e10 := hbo.cell 10; have e11 := hbo.cell 11
  have H := Lib.hid h
  have Hbx := Lib.hid hbx
  have Hbo := Lib.hid hbo
  have Hb0 := Lib.hid hb0
  have Hsz := Lib.hid hsz
  have Hchk := Lib.hid hchk
  clear hbo hbo0 hb00 hb0 hbx hsz hchk h ho
  rw [hz] at Hchk
  go_enter Tryz.func10, Tryz.ntmps10
  go_wp2_with fail
  refine Hchk.out.mono ?_
  rintro e w1 ⟨rfl, hb1⟩
  have hbo1 := Hbo.out.below hb1 Hbo.out.lt
  obtain ⟨a0, a1, a2, a3, a4, a5, a6, a7, a8, a9, a10, a11⟩ := box12R hbo1
  have Hbo1 := Lib.hid hbo1
  have Hb1 := Lib.hid hb1
  have Hbw := Lib.hid (Below.trans Hb0.out (hb1.mono (by rw [Hsz.out]; omega)))
  have Hbx1 := Lib.hid (Hbx.out.below hb1 Hbx.out.lt)
  have Hlt1 : Hid (w.heap.size + 1 < w1.heap.size) := Lib.hid (by have := hb1.size; have := Hsz.out; omega)
  clear hbo1 hb1
  have Hfind := Lib.hid (refFind_any (H.out.below Hbw.out) key hl)
  have hrise := H.out.rise
  obtain ⟨P, hP⟩ : ∃ P, posK key.data.toList rs = P := ⟨_, rfl⟩
  obtain ⟨is, his⟩ : ∃ b, (getK key.data.toList rs).isSome = b := ⟨_, rfl⟩
  have hget := getK_pos key.data.toList rs hrise
  rw [hP, his] at Hfind
  rw [hP] at hget
  have HP := Lib.hid hP
  have HS := Lib.hid his
  have Hget := Lib.hid hget
  have Hl := Lib.hid hl
  have His : Hid (is = (getK key.data.toList (mapK (·.2) rs)).isSome) := Lib.hid (by rw [← his]; exact (isSome_mapK _ _).symm)
  clear hP his hget hrise hl
  go_wp2_with fail
  refine Hfind.out.mono ?_
  rintro e w2 ⟨rfl, m2, h2⟩
  have hbo2 := Hbo1.out.below (below_drews (Below.refl w1.heap.size w1) m2) Hbo1.out.lt
  have hbx2 := Hbx1.out.below (below_drews (Below.refl w1.heap.size w1) m2) Hbx1.out.lt
  rw [← h2] at hbo2 hbx2
  have Hb2 : Hid (Below w.heap.size w w2) := Lib.hid (by rw [h2]; exact below_drews Hbw.out m2)
  have Hlt2 : Hid (w.heap.size + 1 < w2.heap.size) := Lib.hid (by rw [h2]; exact Hlt1.out)
  have HR2 : Hid (RSt w2 B tb rv xv rs F) := Lib.hid (H.out.below Hb2.out)
  have Hbx2 := Lib.hid hbx2
  have Hbo2 := Lib.hid hbo2
  have Htb := Lib.hid H.out.lt
  clear h2 a0 a1 a2 a3 a4 a5 a6 a7 a8 a9 a10 a11
  obtain ⟨a0, a1, a2, a3, a4, a5, a6, a7, a8, a9, a10, a11⟩ := box12R hbo2
  obtain ⟨tc0, tc1, -, -⟩ := HR2.out.cells
  have hrw := HR2.out.rows
  obtain ⟨Aw, N, cw, hre, hwl⟩ : ∃ Aw N cw, rv = .slice Aw N cw ∧ rs.length = N := by
    obtain ⟨A', c', e, -⟩ := own_sliceN hrw
    exact ⟨A', _, c', e, rfl⟩
  rw [hre] at tc0
  clear hbo2 hbx2
  cases is with
  | true =>
    obtain ⟨x, hx, hxk⟩ : ∃ x, rs[P]? = some x ∧ getK key.data.toList rs = some x.2 := by
      have h1 := Hget.out
      have h2 := HS.out
      rw [h1] at h2
      cases hp : rs[P]? with
      | none => rw [hp] at h2; cases h2
      | some x =>
        rw [hp] at h1 h2
        refine ⟨x, rfl, ?_⟩
        simp only [Option.bind_some] at h1 h2
        by_cases e : x.1 = key.data.toList
        · rw [if_pos e] at h1
          exact h1
        · rw [if_neg e] at h2
          cases h2
    have hPN : P < N := by rw [← hwl]; exact (List.getElem?_eq_some_iff.1 hx).1
    have hrw' := hrw
    rw [hre, hwl] at hrw'
    obtain ⟨aw, rfl, hcw⟩ := row_cellR hrw' hPN hx
    have hxo := HR2.out.recs x (List.mem_of_getElem? hx)
    obtain ⟨Ax, cx, ex, -⟩ := own_sliceN hxo
    obtain ⟨zx, hzx⟩ : ∃ z, x.2.2.length = z := ⟨_, rfl⟩
    rw [hzx] at ex
    rw [ex] at hcw
    have Hxo : Hid (w2.ownsRow B 53 3 (.slice Ax zx cx) x.2.2.length (valCells x.2.2)) := Lib.hid (by rw [← ex]; exact hxo)
    have Hzx := Lib.hid hzx
    have Hxk : Hid ((getK key.data.toList (mapK (·.2) rs)).getD [] = x.2.2) := Lib.hid (by rw [mapK_get, hxk]; rfl)
    have p0 : (0 : Int) ≤ (P : Int) := by omega
    have p1 : (P : Int) < (N : Int) := by omega
    clear hx hxk hxo ex hrw' hzx
    have Hix := Lib.hid (refIndex_some HR2.out k x1 hx1 hx0)
    have hxf := HR2.out.flds x1 (List.mem_of_getElem? hx1)
    obtain ⟨Ag, cg, eg, hgc, hgm, -⟩ := own_slice hxf
    obtain ⟨zg, hzg⟩ : ∃ z, x1.2.length = z := ⟨_, rfl⟩
    rw [hzg] at eg hgc
    rw [eg] at Hix
    have Heg := Lib.hid eg
    have Hzg := Lib.hid hzg
    have Hzm : Hid (zg ≤ maxLen) := Lib.hid (by omega)
    clear hxf eg hzg hgc hgm
    go_wp2_with fail
    refine Hix.out.mono ?_
    rintro e w3 ⟨rfl, hb3⟩
    have hbi := hb3
    obtain ⟨z3, hz3⟩ : ∃ y, w3.alloc (.cells #[.int .i64 0, .slice none 0 0] 74) = y := ⟨_, rfl⟩
    have hbz : Below w3.heap.size w3 z3 := hz3 ▸ below_alloc _ _
    have hbxz : Box z3 w3.heap.size 74 #[.int .i64 0, .slice none 0 0] := hz3 ▸ Box.made _ _ _
    have zc0 := hbxz.cell 0
    have zc1 := hbxz.cell 1
    have zf0 := hbxz.frozen 0
    have zf1 := hbxz.frozen 1
    obtain ⟨y3, hy3⟩ : ∃ y, (z3.setCell ⟨w3.heap.size, 0, none⟩ (.int .i64 ((k : Int) + 1))).setCell ⟨w3.heap.size, 1, none⟩ (.slice Ag zg cg) = y := ⟨_, rfl⟩
    have hby : Below w3.heap.size w3 y3 := hy3 ▸ (hbz.setCell (Nat.le_refl _) _).setCell (Nat.le_refl _) _
    have Hby : Hid (Below w2.heap.size w2 y3) := Lib.hid (hb3.trans (hby.mono hb3.size))
    have HRy := Lib.hid (HR2.out.below Hby.out)
    have Hbw2 : Hid (Below w.heap.size w y3) := Lib.hid (Hb2.out.trans (Hby.out.mono Hb2.out.size))
    have HXy := Lib.hid (Hbx2.out.below Hby.out Hlt2.out)
    have hOy := Hbo2.out.below Hby.out Hbo2.out.lt
    have HOy := Lib.hid hOy
    have hbxy : Box y3 w3.heap.size 74 #[.int .i64 ((k : Int) + 1), .slice Ag zg cg] := by
      have := (hbxz.set_ 0 (.int .i64 ((k : Int) + 1))).set_ 1 (.slice Ag zg cg)
      rw [hy3] at this
      simpa using this
    have yc0 := hbxy.cell 0
    have yc1 := hbxy.cell 1
    clear hbxy hb3 hby hbi hbz hbxz a0 a1 a2 a3 a4 a5 a6 a7 a8 a9 a10 a11
    obtain ⟨a0, a1, a2, a3, a4, a5, a6, a7, a8, a9, a10, a11⟩ := box12R hOy
    clear hOy
    have hints : HasInts y3 y3.heap.size Ag zg x1.2 := by
      have h1 := HRy.out.flds x1 (List.mem_of_getElem? hx1)
      rw [Heg.out, Hzg.out] at h1
      exact ⟨Hzg.out, Has.of_own h1⟩
    have Harea := Lib.hid (refArea_any HRy.out ((k : Int) + 1) Ag zg cg x1.2 hints Hzm.out _ _ low high C (hlo.belowOf Hbw2.out hC) (hhi.belowOf Hbw2.out hC) (Nat.le_trans hC Hbw2.out.size) Hl.out)
    clear hints
    go_wp2_with fail
    refine Harea.out.mono ?_
    rintro e w6 ⟨lv, L, rfl, hol, hrise6, hperm6, hb6⟩
    obtain ⟨n6, hn6⟩ : ∃ n, L.length = n := ⟨_, rfl⟩
    rw [hn6] at hol
    have hLle : n6 ≤ 1000 := by
      rw [← hn6, hperm6.length_eq]
      exact Nat.le_trans (List.length_filterMap_le _ _) Hl.out
    obtain ⟨Ao6, co6, rfl, -⟩ := own_sliceN hol
    have Hol := Lib.hid hol
    have Hb6 : Hid (Below w.heap.size w w6) := Lib.hid (Hbw2.out.trans (hb6.mono Hbw2.out.size))
    have HR6 := Lib.hid (HRy.out.below hb6)
    have HX6 := Lib.hid (HXy.out.below hb6 HXy.out.lt)
    have HO6 := Lib.hid (HOy.out.below hb6 HOy.out.lt)
    have Hn6 := Lib.hid hn6
    have Hperm := Lib.hid hperm6
    have Hlist : Hid ((⟨0, false, [], mapK (·.2) ((L.map (·.2)).take lim), 0⟩ : Ans) = queryA ((k : Int) + 1) (twinFrom 0 (F.map (·.2))) low high lim (mapK (·.2) rs)) := Lib.hid (by
      rw [plain_rows]
      refine (query_twin (goods_plain H.out.good) ((rise_map _).2 H.out.rise) ?_ (plain_area hrise6 hperm6)).symm
      unfold idxF
      rw [if_pos (by omega), show ((k : Int) + 1 - 1).toNat = k from by omega, List.getElem?_map, hx1]
      simp only [Option.map_some]
      rw [if_neg hx0])
    have Hlt6 : Hid (w.heap.size + 1 < w6.heap.size) := Lib.hid (by have := HX6.out.lt; omega)
    clear hol hrise6 hperm6 hb6 hn6 yc0 yc1 tc0 tc1 zc0 zc1 zf0 zf1 a0 a1 a2 a3 a4 a5 a6 a7 a8 a9 a10 a11
    go_wp2
    go_loopw [14, 15] (fun ov i wr => ∃ j : Nat, j ≤ n6 ∧ j ≤ lim ∧ i = .int .i64 (j : Int) ∧ wr.ownsRow w6.heap.size 55 2 ov j (rowCells ((L.map (·.2)).take j)) ∧ Below w6.heap.size w6 wr) (fun _ i _ => n6 - (intOf i).toNat)
    case atStart => exact ⟨0, by omega, by omega, rfl, World.ownsRow_nil _ _ _ _, Below.refl _ _⟩
    case round =>
      obtain ⟨j, hj6, hjl, rfl, hown, hbr⟩ := hrel
      have j0 : (0 : Int) ≤ (j : Int) := by omega
      obtain ⟨Ao', co', rfl, -⟩ := own_sliceN hown
      have Hown := Lib.hid hown
      have Hbr := Lib.hid hbr
      obtain ⟨b0, b1, b2, b3, b4, b5, b6, b7, b8, b9, b10, b11⟩ := box12R (HO6.out.below hbr HO6.out.lt)
      clear hown hbr
      by_cases hjn : j < n6
      · have j1 : (j : Int) < (n6 : Int) := by omega
        by_cases hjlim : j < lim
        · have j2 : (j : Int) < (lim : Int) := by omega
          obtain ⟨y, hy⟩ : ∃ y, L[j]? = some y := ⟨_, List.getElem?_eq_getElem (by have := Hn6.out; omega)⟩
          obtain ⟨al, e2, s0, s1, s2⟩ := show_cell (own_belowN Hol.out Hbr.out) hjn hy
          subst e2
          have hyr := HR6.out.recs y.2 (area_row Hperm.out (List.mem_of_getElem? hy))
          obtain ⟨Av, cv, ev, -⟩ := own_sliceN hyr
          obtain ⟨zv, hzv⟩ : ∃ z, y.2.2.2.length = z := ⟨_, rfl⟩
          rw [hzv] at ev
          rw [ev] at s2
          unfold encStr at s0 s1
          have Hy : Hid ((L.map (·.2))[j]? = some y.2) := Lib.hid (by rw [List.getElem?_map, hy]; rfl)
          have Hev := Lib.hid ev
          clear hy hyr ev hzv
          go_wp2_with (at_builtin; refine wpList_append_hasN rfl (.tmp 176) (.tmp 182) _ rfl 55 row_elem (by omega) Tryz.underlying33 rfl (own_belowN Hown.out (below_alloc _ _)) rfl (Has.lit wr #[.string ⟨y.2.1.toArray⟩, .slice Av zv cv] _) (by intro u hu; simp at hu; rcases hu with rfl | rfl <;> rfl) (by simp only [maxLen]; omega) (by omega) (by have := Hbr.out.size; simp; omega) ?_; intro v3 x4 ho3 hg3 hz3; have BX : Below w6.heap.size w6 (wr.alloc (.cells #[.string ⟨y.2.1.toArray⟩, .slice Av zv cv] 55)) := Hbr.out.trans ((below_alloc _ _).mono Hbr.out.size); have OA : (wr.alloc (.cells #[.string ⟨y.2.1.toArray⟩, .slice Av zv cv] 55)).ownsRow w6.heap.size 55 2 (.slice Ao' j co') j (rowCells ((L.map (·.2)).take j)) := own_belowN Hown.out (below_alloc _ _); have B4 : Hid (Below w6.heap.size w6 x4) := Lib.hid (BX.grown hg3 BX.size (fun g e => (OA.lt g e).1)); have O3 : Hid (x4.ownsRow w6.heap.size 55 2 v3 (j + 1) (rowCells ((L.map (·.2)).take (j + 1)))) := Lib.hid (own_eqR7 ho3 rfl (by rw [List.take_add_one, Hy.out, rowCells_app]; simp [rowCells, encStr, Hev.out])); clear ho3 hg3 hz3 BX OA)
          go_roundw
          case rel => exact ⟨j + 1, by omega, by omega, by go_num, O3.out, B4.out⟩
          case measure => simp [intOf]; omega
        · have j2 : (lim : Int) ≤ (j : Int) := by omega
          have j3 : decide ((j : Int) < (lim : Int)) = false := by simp; omega
          have hjeq : (L.map (·.2)).take j = (L.map (·.2)).take lim := by rw [show j = lim from by omega]
          have hbx5 := HX6.out.below Hbr.out (by have := Hlt6.out; omega)
          have HbW : Hid (Below w.heap.size w wr) := Lib.hid (Hb6.out.trans (Hbr.out.mono Hb6.out.size))
          have HRX := Lib.hid (HR6.out.below Hbr.out)
          have HROW : Hid (RowsIs wr B (.slice Ao' j co') (mapK (·.2) ((L.map (·.2)).take lim))) := Lib.hid ⟨(L.map (·.2)).take lim, ⟨own_baseN (own_eqR7 Hown.out (by rw [← hjeq, List.length_take, List.length_map, Hn6.out]; omega) (by rw [hjeq])) (Nat.le_trans H.out.old Hb6.out.size), fun r hr => by
            obtain ⟨y, hy, rfl⟩ := List.mem_map.1 (List.mem_of_mem_take hr)
            exact HRX.out.recs y.2 (area_row Hperm.out hy)⟩, rfl⟩
          clear hjeq
          obtain ⟨r0, r1, r2, r3, r4, k0, k1, k2, k3, k4⟩ := box5 hbx5
          obtain ⟨W3, hW3⟩ : ∃ W3, ((((wr.setCell ⟨w.heap.size + 1, 0, none⟩ (.int .i64 0)).setCell ⟨w.heap.size + 1, 1, none⟩ (.bool false)).setCell ⟨w.heap.size + 1, 2, none⟩ (.slice none 0 0)).setCell ⟨w.heap.size + 1, 3, none⟩ (.slice Ao' j co')).setCell ⟨w.heap.size + 1, 4, none⟩ (.int .i64 0) = W3 := ⟨_, rfl⟩
          obtain ⟨p0, p1, p2, p3, p4, -⟩ := box5 (box5_store hbx5 hW3)
          have hend := clash_end (a := ⟨0, false, [], mapK (·.2) ((L.map (·.2)).take lim), 0⟩) (a' := _) HbW.out (Nat.le_succ _) H.out.old (RKept.refl _ _) HRX.out hbx5 (World.ownsRow_nil _ _ _ _) HROW.out hW3 Hlist.out rfl
          have Hend := Lib.hid hend
          clear hend
          clear hbx5
          go_wp2
          refine bodyPost_ret (v := replyV 0 false (.slice none 0 0) (.slice Ao' j co') 0) ?_ rfl ⟨_, rfl, Hend.out⟩
          simp [results, Tryz.results10, go_sem, replyV, p0, p1, p2, p3, p4]
      · have j1 : (n6 : Int) ≤ (j : Int) := by omega
        have j3 : decide ((j : Int) < (n6 : Int)) = false := by simp; omega
        have hjeq : (L.map (·.2)).take j = (L.map (·.2)).take lim := by rw [List.take_of_length_le (by rw [List.length_map, Hn6.out]; exact Nat.le_of_not_lt hjn), List.take_of_length_le (by rw [List.length_map, Hn6.out]; omega)]
        have hbx5 := HX6.out.below Hbr.out (by have := Hlt6.out; omega)
        have HbW : Hid (Below w.heap.size w wr) := Lib.hid (Hb6.out.trans (Hbr.out.mono Hb6.out.size))
        have HRX := Lib.hid (HR6.out.below Hbr.out)
        have HROW : Hid (RowsIs wr B (.slice Ao' j co') (mapK (·.2) ((L.map (·.2)).take lim))) := Lib.hid ⟨(L.map (·.2)).take lim, ⟨own_baseN (own_eqR7 Hown.out (by rw [← hjeq, List.length_take, List.length_map, Hn6.out]; omega) (by rw [hjeq])) (Nat.le_trans H.out.old Hb6.out.size), fun r hr => by
          obtain ⟨y, hy, rfl⟩ := List.mem_map.1 (List.mem_of_mem_take hr)
          exact HRX.out.recs y.2 (area_row Hperm.out hy)⟩, rfl⟩
        clear hjeq
        obtain ⟨r0, r1, r2, r3, r4, k0, k1, k2, k3, k4⟩ := box5 hbx5
        obtain ⟨W3, hW3⟩ : ∃ W3, ((((wr.setCell ⟨w.heap.size + 1, 0, none⟩ (.int .i64 0)).setCell ⟨w.heap.size + 1, 1, none⟩ (.bool false)).setCell ⟨w.heap.size + 1, 2, none⟩ (.slice none 0 0)).setCell ⟨w.heap.size + 1, 3, none⟩ (.slice Ao' j co')).setCell ⟨w.heap.size + 1, 4, none⟩ (.int .i64 0) = W3 := ⟨_, rfl⟩
        obtain ⟨p0, p1, p2, p3, p4, -⟩ := box5 (box5_store hbx5 hW3)
        have hend := clash_end (a := ⟨0, false, [], mapK (·.2) ((L.map (·.2)).take lim), 0⟩) (a' := _) HbW.out (Nat.le_succ _) H.out.old (RKept.refl _ _) HRX.out hbx5 (World.ownsRow_nil _ _ _ _) HROW.out hW3 Hlist.out rfl
        have Hend := Lib.hid hend
        clear hend
        clear hbx5
        go_wp2
        refine bodyPost_ret (v := replyV 0 false (.slice none 0 0) (.slice Ao' j co') 0) ?_ rfl ⟨_, rfl, Hend.out⟩
        simp [results, Tryz.results10, go_sem, replyV, p0, p1, p2, p3, p4]
  | false =>
    have Hxk : Hid ((getK key.data.toList (mapK (·.2) rs)).getD [] = []) := Lib.hid (by
      have h1 := His.out
      cases e : getK key.data.toList (mapK (·.2) rs) with
      | none => rfl
      | some x => rw [e] at h1; cases h1)
    have Hix := Lib.hid (refIndex_some HR2.out k x1 hx1 hx0)
    have hxf := HR2.out.flds x1 (List.mem_of_getElem? hx1)
    obtain ⟨Ag, cg, eg, hgc, hgm, -⟩ := own_slice hxf
    obtain ⟨zg, hzg⟩ : ∃ z, x1.2.length = z := ⟨_, rfl⟩
    rw [hzg] at eg hgc
    rw [eg] at Hix
    have Heg := Lib.hid eg
    have Hzg := Lib.hid hzg
    have Hzm : Hid (zg ≤ maxLen) := Lib.hid (by omega)
    clear hxf eg hzg hgc hgm
    go_wp2_with fail
    refine Hix.out.mono ?_
    rintro e w3 ⟨rfl, hb3⟩
    have hbi := hb3
    obtain ⟨z3, hz3⟩ : ∃ y, w3.alloc (.cells #[.int .i64 0, .slice none 0 0] 74) = y := ⟨_, rfl⟩
    have hbz : Below w3.heap.size w3 z3 := hz3 ▸ below_alloc _ _
    have hbxz : Box z3 w3.heap.size 74 #[.int .i64 0, .slice none 0 0] := hz3 ▸ Box.made _ _ _
    have zc0 := hbxz.cell 0
    have zc1 := hbxz.cell 1
    have zf0 := hbxz.frozen 0
    have zf1 := hbxz.frozen 1
    obtain ⟨y3, hy3⟩ : ∃ y, (z3.setCell ⟨w3.heap.size, 0, none⟩ (.int .i64 ((k : Int) + 1))).setCell ⟨w3.heap.size, 1, none⟩ (.slice Ag zg cg) = y := ⟨_, rfl⟩
    have hby : Below w3.heap.size w3 y3 := hy3 ▸ (hbz.setCell (Nat.le_refl _) _).setCell (Nat.le_refl _) _
    have Hby : Hid (Below w2.heap.size w2 y3) := Lib.hid (hb3.trans (hby.mono hb3.size))
    have HRy := Lib.hid (HR2.out.below Hby.out)
    have Hbw2 : Hid (Below w.heap.size w y3) := Lib.hid (Hb2.out.trans (Hby.out.mono Hb2.out.size))
    have HXy := Lib.hid (Hbx2.out.below Hby.out Hlt2.out)
    have hOy := Hbo2.out.below Hby.out Hbo2.out.lt
    have HOy := Lib.hid hOy
    have hbxy : Box y3 w3.heap.size 74 #[.int .i64 ((k : Int) + 1), .slice Ag zg cg] := by
      have := (hbxz.set_ 0 (.int .i64 ((k : Int) + 1))).set_ 1 (.slice Ag zg cg)
      rw [hy3] at this
      simpa using this
    have yc0 := hbxy.cell 0
    have yc1 := hbxy.cell 1
    clear hbxy hb3 hby hbi hbz hbxz a0 a1 a2 a3 a4 a5 a6 a7 a8 a9 a10 a11
    obtain ⟨a0, a1, a2, a3, a4, a5, a6, a7, a8, a9, a10, a11⟩ := box12R hOy
    clear hOy
    have hints : HasInts y3 y3.heap.size Ag zg x1.2 := by
      have h1 := HRy.out.flds x1 (List.mem_of_getElem? hx1)
      rw [Heg.out, Hzg.out] at h1
      exact ⟨Hzg.out, Has.of_own h1⟩
    have Harea := Lib.hid (refArea_any HRy.out ((k : Int) + 1) Ag zg cg x1.2 hints Hzm.out _ _ low high C (hlo.belowOf Hbw2.out hC) (hhi.belowOf Hbw2.out hC) (Nat.le_trans hC Hbw2.out.size) Hl.out)
    clear hints
    go_wp2_with fail
    refine Harea.out.mono ?_
    rintro e w6 ⟨lv, L, rfl, hol, hrise6, hperm6, hb6⟩
    obtain ⟨n6, hn6⟩ : ∃ n, L.length = n := ⟨_, rfl⟩
    rw [hn6] at hol
    have hLle : n6 ≤ 1000 := by
      rw [← hn6, hperm6.length_eq]
      exact Nat.le_trans (List.length_filterMap_le _ _) Hl.out
    obtain ⟨Ao6, co6, rfl, -⟩ := own_sliceN hol
    have Hol := Lib.hid hol
    have Hb6 : Hid (Below w.heap.size w w6) := Lib.hid (Hbw2.out.trans (hb6.mono Hbw2.out.size))
    have HR6 := Lib.hid (HRy.out.below hb6)
    have HX6 := Lib.hid (HXy.out.below hb6 HXy.out.lt)
    have HO6 := Lib.hid (HOy.out.below hb6 HOy.out.lt)
    have Hn6 := Lib.hid hn6
    have Hperm := Lib.hid hperm6
    have Hlist : Hid ((⟨0, false, [], mapK (·.2) ((L.map (·.2)).take lim), 0⟩ : Ans) = queryA ((k : Int) + 1) (twinFrom 0 (F.map (·.2))) low high lim (mapK (·.2) rs)) := Lib.hid (by
      rw [plain_rows]
      refine (query_twin (goods_plain H.out.good) ((rise_map _).2 H.out.rise) ?_ (plain_area hrise6 hperm6)).symm
      unfold idxF
      rw [if_pos (by omega), show ((k : Int) + 1 - 1).toNat = k from by omega, List.getElem?_map, hx1]
      simp only [Option.map_some]
      rw [if_neg hx0])
    have Hlt6 : Hid (w.heap.size + 1 < w6.heap.size) := Lib.hid (by have := HX6.out.lt; omega)
    clear hol hrise6 hperm6 hb6 hn6 yc0 yc1 tc0 tc1 zc0 zc1 zf0 zf1 a0 a1 a2 a3 a4 a5 a6 a7 a8 a9 a10 a11
    go_wp2
    go_loopw [14, 15] (fun ov i wr => ∃ j : Nat, j ≤ n6 ∧ j ≤ lim ∧ i = .int .i64 (j : Int) ∧ wr.ownsRow w6.heap.size 55 2 ov j (rowCells ((L.map (·.2)).take j)) ∧ Below w6.heap.size w6 wr) (fun _ i _ => n6 - (intOf i).toNat)
    case atStart => exact ⟨0, by omega, by omega, rfl, World.ownsRow_nil _ _ _ _, Below.refl _ _⟩
    case round =>
      obtain ⟨j, hj6, hjl, rfl, hown, hbr⟩ := hrel
      have j0 : (0 : Int) ≤ (j : Int) := by omega
      obtain ⟨Ao', co', rfl, -⟩ := own_sliceN hown
      have Hown := Lib.hid hown
      have Hbr := Lib.hid hbr
      obtain ⟨b0, b1, b2, b3, b4, b5, b6, b7, b8, b9, b10, b11⟩ := box12R (HO6.out.below hbr HO6.out.lt)
      clear hown hbr
      by_cases hjn : j < n6
      · have j1 : (j : Int) < (n6 : Int) := by omega
        by_cases hjlim : j < lim
        · have j2 : (j : Int) < (lim : Int) := by omega
          obtain ⟨y, hy⟩ : ∃ y, L[j]? = some y := ⟨_, List.getElem?_eq_getElem (by have := Hn6.out; omega)⟩
          obtain ⟨al, e2, s0, s1, s2⟩ := show_cell (own_belowN Hol.out Hbr.out) hjn hy
          subst e2
          have hyr := HR6.out.recs y.2 (area_row Hperm.out (List.mem_of_getElem? hy))
          obtain ⟨Av, cv, ev, -⟩ := own_sliceN hyr
          obtain ⟨zv, hzv⟩ : ∃ z, y.2.2.2.length = z := ⟨_, rfl⟩
          rw [hzv] at ev
          rw [ev] at s2
          unfold encStr at s0 s1
          have Hy : Hid ((L.map (·.2))[j]? = some y.2) := Lib.hid (by rw [List.getElem?_map, hy]; rfl)
          have Hev := Lib.hid ev
          clear hy hyr ev hzv
          go_wp2_with (at_builtin; refine wpList_append_hasN rfl (.tmp 176) (.tmp 182) _ rfl 55 row_elem (by omega) Tryz.underlying33 rfl (own_belowN Hown.out (below_alloc _ _)) rfl (Has.lit wr #[.string ⟨y.2.1.toArray⟩, .slice Av zv cv] _) (by intro u hu; simp at hu; rcases hu with rfl | rfl <;> rfl) (by simp only [maxLen]; omega) (by omega) (by have := Hbr.out.size; simp; omega) ?_; intro v3 x4 ho3 hg3 hz3; have BX : Below w6.heap.size w6 (wr.alloc (.cells #[.string ⟨y.2.1.toArray⟩, .slice Av zv cv] 55)) := Hbr.out.trans ((below_alloc _ _).mono Hbr.out.size); have OA : (wr.alloc (.cells #[.string ⟨y.2.1.toArray⟩, .slice Av zv cv] 55)).ownsRow w6.heap.size 55 2 (.slice Ao' j co') j (rowCells ((L.map (·.2)).take j)) := own_belowN Hown.out (below_alloc _ _); have B4 : Hid (Below w6.heap.size w6 x4) := Lib.hid (BX.grown hg3 BX.size (fun g e => (OA.lt g e).1)); have O3 : Hid (x4.ownsRow w6.heap.size 55 2 v3 (j + 1) (rowCells ((L.map (·.2)).take (j + 1)))) := Lib.hid (own_eqR7 ho3 rfl (by rw [List.take_add_one, Hy.out, rowCells_app]; simp [rowCells, encStr, Hev.out])); clear ho3 hg3 hz3 BX OA)
          go_roundw
          case rel => exact ⟨j + 1, by omega, by omega, by go_num, O3.out, B4.out⟩
          case measure => simp [intOf]; omega
        · have j2 : (lim : Int) ≤ (j : Int) := by omega
          have j3 : decide ((j : Int) < (lim : Int)) = false := by simp; omega
          have hjeq : (L.map (·.2)).take j = (L.map (·.2)).take lim := by rw [show j = lim from by omega]
          have hbx5 := HX6.out.below Hbr.out (by have := Hlt6.out; omega)
          have HbW : Hid (Below w.heap.size w wr) := Lib.hid (Hb6.out.trans (Hbr.out.mono Hb6.out.size))
          have HRX := Lib.hid (HR6.out.below Hbr.out)
          have HROW : Hid (RowsIs wr B (.slice Ao' j co') (mapK (·.2) ((L.map (·.2)).take lim))) := Lib.hid ⟨(L.map (·.2)).take lim, ⟨own_baseN (own_eqR7 Hown.out (by rw [← hjeq, List.length_take, List.length_map, Hn6.out]; omega) (by rw [hjeq])) (Nat.le_trans H.out.old Hb6.out.size), fun r hr => by
            obtain ⟨y, hy, rfl⟩ := List.mem_map.1 (List.mem_of_mem_take hr)
            exact HRX.out.recs y.2 (area_row Hperm.out hy)⟩, rfl⟩
          clear hjeq
          obtain ⟨r0, r1, r2, r3, r4, k0, k1, k2, k3, k4⟩ := box5 hbx5
          obtain ⟨W3, hW3⟩ : ∃ W3, ((((wr.setCell ⟨w.heap.size + 1, 0, none⟩ (.int .i64 0)).setCell ⟨w.heap.size + 1, 1, none⟩ (.bool false)).setCell ⟨w.heap.size + 1, 2, none⟩ (.slice none 0 0)).setCell ⟨w.heap.size + 1, 3, none⟩ (.slice Ao' j co')).setCell ⟨w.heap.size + 1, 4, none⟩ (.int .i64 0) = W3 := ⟨_, rfl⟩
          obtain ⟨p0, p1, p2, p3, p4, -⟩ := box5 (box5_store hbx5 hW3)
          have hend := clash_end (a := ⟨0, false, [], mapK (·.2) ((L.map (·.2)).take lim), 0⟩) (a' := _) HbW.out (Nat.le_succ _) H.out.old (RKept.refl _ _) HRX.out hbx5 (World.ownsRow_nil _ _ _ _) HROW.out hW3 Hlist.out rfl
          have Hend := Lib.hid hend
          clear hend
          clear hbx5
          go_wp2
          refine bodyPost_ret (v := replyV 0 false (.slice none 0 0) (.slice Ao' j co') 0) ?_ rfl ⟨_, rfl, Hend.out⟩
          simp [results, Tryz.results10, go_sem, replyV, p0, p1, p2, p3, p4]
      · have j1 : (n6 : Int) ≤ (j : Int) := by omega
        have j3 : decide ((j : Int) < (n6 : Int)) = false := by simp; omega
        have hjeq : (L.map (·.2)).take j = (L.map (·.2)).take lim := by rw [List.take_of_length_le (by rw [List.length_map, Hn6.out]; exact Nat.le_of_not_lt hjn), List.take_of_length_le (by rw [List.length_map, Hn6.out]; omega)]
        have hbx5 := HX6.out.below Hbr.out (by have := Hlt6.out; omega)
        have HbW : Hid (Below w.heap.size w wr) := Lib.hid (Hb6.out.trans (Hbr.out.mono Hb6.out.size))
        have HRX := Lib.hid (HR6.out.below Hbr.out)
        have HROW : Hid (RowsIs wr B (.slice Ao' j co') (mapK (·.2) ((L.map (·.2)).take lim))) := Lib.hid ⟨(L.map (·.2)).take lim, ⟨own_baseN (own_eqR7 Hown.out (by rw [← hjeq, List.length_take, List.length_map, Hn6.out]; omega) (by rw [hjeq])) (Nat.le_trans H.out.old Hb6.out.size), fun r hr => by
          obtain ⟨y, hy, rfl⟩ := List.mem_map.1 (List.mem_of_mem_take hr)
          exact HRX.out.recs y.2 (area_row Hperm.out hy)⟩, rfl⟩
        clear hjeq
        obtain ⟨r0, r1, r2, r3, r4, k0, k1, k2, k3, k4⟩ := box5 hbx5
        obtain ⟨W3, hW3⟩ : ∃ W3, ((((wr.setCell ⟨w.heap.size + 1, 0, none⟩ (.int .i64 0)).setCell ⟨w.heap.size + 1, 1, none⟩ (.bool false)).setCell ⟨w.heap.size + 1, 2, none⟩ (.slice none 0 0)).setCell ⟨w.heap.size + 1, 3, none⟩ (.slice Ao' j co')).setCell ⟨w.heap.size + 1, 4, none⟩ (.int .i64 0) = W3 := ⟨_, rfl⟩
        obtain ⟨p0, p1, p2, p3, p4, -⟩ := box5 (box5_store hbx5 hW3)
        have hend := clash_end (a := ⟨0, false, [], mapK (·.2) ((L.map (·.2)).take lim), 0⟩) (a' := _) HbW.out (Nat.le_succ _) H.out.old (RKept.refl _ _) HRX.out hbx5 (World.ownsRow_nil _ _ _ _) HROW.out hW3 Hlist.out rfl
        have Hend := Lib.hid hend
        clear hend
        clear hbx5
        go_wp2
        refine bodyPost_ret (v := replyV 0 false (.slice none 0 0) (.slice Ao' j co') 0) ?_ rfl ⟨_, rfl, Hend.out⟩
        simp [results, Tryz.results10, go_sem, replyV, p0, p1, p2, p3, p4]
end
end Go.Proofs.YtknfjajmnlpfjaaGreat

namespace Go.Proofs.YtknfjajmnlpfjaaGreat
open Go.RowKit
open Go.Lib (strCells compareBytes)

theorem idxF_some {F : List (Value × List Int)} {id : Int} {fs : List Int} (h : idxF id (F.map (·.2)) = some fs) : ∃ (k : Nat) (x : Value × List Int), F[k]? = some x ∧ x.2 = fs ∧ x.2 ≠ [] ∧ id = (k : Int) + 1 := by
  unfold idxF at h
  by_cases h1 : 1 ≤ id
  · rw [if_pos h1, List.getElem?_map] at h
    cases e : F[(id - 1).toNat]? with
    | none => rw [e] at h; cases h
    | some x =>
      rw [e] at h
      simp only [Option.map_some] at h
      by_cases hx : x.2 = []
      · rw [if_pos hx] at h; cases h
      · rw [if_neg hx] at h
        injection h with h
        exact ⟨_, x, e, h, hx, by omega⟩
  · rw [if_neg h1] at h; cases h
theorem str_elemS : Elem Tryz.prog 9 16 (.string ⟨#[]⟩) := ⟨by kernel_rfl, rfl⟩
section
variable {w : World} {B tb : Nat} {rv xv : Value} {rs : Kv (Value × List TVal)} {F : List (Value × List Int)}
set_option maxRecDepth 100000 in
set_option maxHeartbeats 3200000 in
theorem refShown_any (h : RSt w B tb rv xv rs F) (id : Int) (hidb : InI64 id) (hl : rs.length ≤ 1000) :
    Calls Tryz.prog 13 #[.pointer (some ⟨tb, 0, none⟩), .int .i64 id] w fun e w' => ∃ v, e = .returned v ∧ w'.ownsRow w.heap.size 9 1 v (shownI id (twinFrom 0 (F.map (·.2))) (mapK (·.2) rs)).length (strRow (shownI id (twinFrom 0 (F.map (·.2))) (mapK (·.2) rs))) ∧ Below w.heap.size w w' := by
  cases hidx : idxF id (F.map (·.2)) with
  | none =>
    have Hix := Lib.hid (refIndex_none h id hidx hidb)
    rw [shown_none hidx]
    clear h hidx
    go_enter Tryz.func13, Tryz.ntmps13
    go_wp2_with fail
    refine Hix.out.mono ?_
    rintro e w3 ⟨rfl, hb3⟩
    obtain ⟨z3, hz3⟩ : ∃ y, w3.alloc (.cells #[.int .i64 0, .slice none 0 0] 74) = y := ⟨_, rfl⟩
    have hbz : Below w3.heap.size w3 z3 := hz3 ▸ below_alloc _ _
    have hbxz : Box z3 w3.heap.size 74 #[.int .i64 0, .slice none 0 0] := hz3 ▸ Box.made _ _ _
    have zc0 := hbxz.cell 0
    have zc1 := hbxz.cell 1
    have zf0 := hbxz.frozen 0
    have zf1 := hbxz.frozen 1
    obtain ⟨y3, hy3⟩ : ∃ y, (z3.setCell ⟨w3.heap.size, 0, none⟩ (.int .i64 0)).setCell ⟨w3.heap.size, 1, none⟩ (.slice none 0 0) = y := ⟨_, rfl⟩
    have hby : Below w3.heap.size w3 y3 := hy3 ▸ (hbz.setCell (Nat.le_refl _) _).setCell (Nat.le_refl _) _
    have Hby : Hid (Below w.heap.size w y3) := Lib.hid (hb3.trans (hby.mono hb3.size))
    clear hb3 hby hbz hbxz
    go_wp2
    go_ret
    exact ⟨_, rfl, World.ownsRow_nil _ _ _ _, Hby.out⟩
  | some fs =>
    obtain ⟨k, x1, hx1, hfs, hx0, rfl⟩ := idxF_some hidx
    have Hix := Lib.hid (refIndex_some h k x1 hx1 hx0)
    have hxf := h.flds x1 (List.mem_of_getElem? hx1)
    obtain ⟨Ag, cg, eg, hgc, hgm, -⟩ := own_slice hxf
    obtain ⟨zg, hzg⟩ : ∃ z, x1.2.length = z := ⟨_, rfl⟩
    rw [hzg] at eg hgc
    rw [eg] at Hix
    have Heg := Lib.hid eg
    have Hzg := Lib.hid hzg
    have Hzm : Hid (zg ≤ maxLen) := Lib.hid (by omega)
    have H := Lib.hid h
    have Hl := Lib.hid hl
    have Hidx : Hid (idxF ((k : Int) + 1) (F.map (·.2)) = some x1.2) := Lib.hid (by rw [hfs]; exact hidx)
    have Hx1 := Lib.hid hx1
    obtain ⟨SH, hSH⟩ : ∃ l, shownI ((k : Int) + 1) (twinFrom 0 (F.map (·.2))) (mapK (·.2) rs) = l := ⟨_, rfl⟩
    rw [hSH]
    have HSH := Lib.hid hSH
    clear hxf eg hzg hgc hgm h hidx hfs hx0 hl hx1 hSH
    go_enter Tryz.func13, Tryz.ntmps13
    go_wp2_with fail
    refine Hix.out.mono ?_
    rintro e w3 ⟨rfl, hb3⟩
    obtain ⟨z3, hz3⟩ : ∃ y, w3.alloc (.cells #[.int .i64 0, .slice none 0 0] 74) = y := ⟨_, rfl⟩
    have hbz : Below w3.heap.size w3 z3 := hz3 ▸ below_alloc _ _
    have hbxz : Box z3 w3.heap.size 74 #[.int .i64 0, .slice none 0 0] := hz3 ▸ Box.made _ _ _
    have zc0 := hbxz.cell 0
    have zc1 := hbxz.cell 1
    have zf0 := hbxz.frozen 0
    have zf1 := hbxz.frozen 1
    obtain ⟨y3, hy3⟩ : ∃ y, (z3.setCell ⟨w3.heap.size, 0, none⟩ (.int .i64 ((k : Int) + 1))).setCell ⟨w3.heap.size, 1, none⟩ (.slice Ag zg cg) = y := ⟨_, rfl⟩
    have hby : Below w3.heap.size w3 y3 := hy3 ▸ (hbz.setCell (Nat.le_refl _) _).setCell (Nat.le_refl _) _
    have Hby : Hid (Below w.heap.size w y3) := Lib.hid (hb3.trans (hby.mono hb3.size))
    have hbxy : Box y3 w3.heap.size 74 #[.int .i64 ((k : Int) + 1), .slice Ag zg cg] := by
      have := (hbxz.set_ 0 (.int .i64 ((k : Int) + 1))).set_ 1 (.slice Ag zg cg)
      rw [hy3] at this
      simpa using this
    have yc0 := hbxy.cell 0
    have yc1 := hbxy.cell 1
    clear hbxy hb3 hby hbz hbxz
    have HRy := Lib.hid (H.out.below Hby.out)
    have hints : HasInts y3 y3.heap.size Ag zg x1.2 := by
      have h1 := HRy.out.flds x1 (List.mem_of_getElem? Hx1.out)
      rw [Heg.out, Hzg.out] at h1
      exact ⟨Hzg.out, Has.of_own h1⟩
    have Harea := Lib.hid (refArea_any HRy.out ((k : Int) + 1) Ag zg cg x1.2 hints Hzm.out _ _ [] [] y3.heap.size (isVals_nil _ _) (isVals_nil _ _) (Nat.le_refl _) Hl.out)
    clear hints
    go_wp2_with fail
    refine Harea.out.mono ?_
    rintro e w6 ⟨lv, L, rfl, hol, hrise6, hperm6, hb6⟩
    have hsh := shown_plain (goods_plain H.out.good) Hidx.out (plain_area hrise6 hperm6)
    have hsh2 : shownI ((k : Int) + 1) (twinFrom 0 (F.map (·.2))) (mapK (·.2) rs) = L.map (·.1) := by rw [hsh, List.map_map]; rfl
    have Hsh := Lib.hid (HSH.out.symm.trans hsh2)
    obtain ⟨n6, hn6⟩ : ∃ n, L.length = n := ⟨_, rfl⟩
    rw [hn6] at hol
    have hLle : n6 ≤ 1000 := by
      rw [← hn6, hperm6.length_eq]
      exact Nat.le_trans (List.length_filterMap_le _ _) Hl.out
    obtain ⟨Ao6, co6, rfl, -⟩ := own_sliceN hol
    have Hol := Lib.hid hol
    have Hb6 : Hid (Below w.heap.size w w6) := Lib.hid (Hby.out.trans (hb6.mono Hby.out.size))
    have Hn6 := Lib.hid hn6
    clear hol hrise6 hperm6 hb6 hn6 yc0 yc1 zc0 zc1 zf0 zf1 hsh hsh2
    go_wp2
    go_loopw [5, 9] (fun ov i wr => ∃ j : Nat, j ≤ n6 ∧ i = .int .i64 (j : Int) ∧ wr.ownsRow w6.heap.size 9 1 ov j (strRow ((L.map (·.1)).take j)) ∧ Below w6.heap.size w6 wr) (fun _ i _ => n6 - (intOf i).toNat)
    case atStart => exact ⟨0, by omega, rfl, World.ownsRow_nil _ _ _ _, Below.refl _ _⟩
    case round =>
      obtain ⟨j, hj6, rfl, hown, hbr⟩ := hrel
      have j0 : (0 : Int) ≤ (j : Int) := by omega
      obtain ⟨Ao', co', rfl, -⟩ := own_slice hown
      have Hown := Lib.hid hown
      have Hbr := Lib.hid hbr
      clear hown hbr
      by_cases hjn : j < n6
      · have j1 : (j : Int) < (n6 : Int) := by omega
        obtain ⟨y, hy⟩ : ∃ y, L[j]? = some y := ⟨_, List.getElem?_eq_getElem (by have := Hn6.out; omega)⟩
        obtain ⟨al, e2, s0, s1, s2⟩ := show_cell (own_belowN Hol.out Hbr.out) hjn hy
        subst e2
        have Hy : Hid ((L.map (·.1))[j]? = some y.1) := Lib.hid (by rw [List.getElem?_map, hy]; rfl)
        unfold encStr at s0
        clear hy s1 s2
        go_wp2_with (at_builtin; refine wpList_append_has rfl (.tmp 27) (.tmp 33) _ rfl 9 str_elemS Tryz.underlying41 rfl (own_belowN Hown.out (below_alloc _ _)) rfl (Has.one wr (.string ⟨y.1.toArray⟩) _ _ rfl) (one_string _) (by simp only [maxLen]; omega) (by omega) (by have := Hbr.out.size; simp; omega) ?_; intro v3 x4 ho3 hg3 hz3; have BX : Below w6.heap.size w6 (wr.alloc (.cells #[.string ⟨y.1.toArray⟩] 9)) := Hbr.out.trans ((below_alloc _ _).mono Hbr.out.size); have OA : (wr.alloc (.cells #[.string ⟨y.1.toArray⟩] 9)).ownsRow w6.heap.size 9 1 (.slice Ao' j co') j (strRow ((L.map (·.1)).take j)) := own_belowN Hown.out (below_alloc _ _); have B4 : Hid (Below w6.heap.size w6 x4) := Lib.hid (BX.grown hg3 BX.size (fun g e => (OA.lt g e).1)); have O3 : Hid (x4.ownsRow w6.heap.size 9 1 v3 (j + 1) (strRow ((L.map (·.1)).take (j + 1)))) := Lib.hid (by rw [List.take_add_one, Hy.out]; simpa [strRow, encStr] using ho3); clear ho3 hg3 hz3 BX OA)
        go_roundw
        case rel => exact ⟨j + 1, by omega, by go_num, O3.out, B4.out⟩
        case measure => simp [intOf]; omega
      · have j1 : (n6 : Int) ≤ (j : Int) := by omega
        have Hend : Hid (wr.ownsRow w.heap.size 9 1 (.slice Ao' j co') SH.length (strRow SH)) := Lib.hid (by
          rw [Hsh.out]
          have h := Hown.out
          rw [List.take_of_length_le (by rw [List.length_map, Hn6.out]; omega)] at h
          have e : (L.map (·.1)).length = j := by rw [List.length_map, Hn6.out]; omega
          rw [e]
          exact own_base h Hb6.out.size)
        have Hbe : Hid (Below w.heap.size w wr) := Lib.hid (Hb6.out.trans (Hbr.out.mono Hb6.out.size))
        go_wp2
        go_ret
        exact ⟨_, rfl, Hend.out, Hbe.out⟩
end
end Go.Proofs.YtknfjajmnlpfjaaGreat

namespace Go.Proofs.YtknfjajmnlpfjaaGreat
open Go.RowKit
open Go.Lib (strCells compareBytes)

/-- the fields of all indexes behind an operation -/
def refFF (o : TOp) (FF : List (List Int)) : List (List Int) :=
  if ¬ checkT o = 0 then FF
  else if o.k = 7 then (declR o.fs FF).2
  else if o.k = 8 then (if (idxF o.id FF).isSome then FF.set (o.id - 1).toNat [] else FF)
  else FF
theorem fs_ne {fs : List Int} (h : idxErr 1 fs = 0) : fs ≠ [] := fun e => by
  subst e
  unfold idxErr at h
  rw [if_pos (.inr rfl)] at h
  cases h
theorem fs_two {fs : List Int} (h : idxErr 1 fs = 0) : fs.length ≤ 2 := by
  unfold idxErr at h
  split at h
  · cases h
  · split at h
    · cases h
    · omega
theorem old_len {old : List TVal} {n : Nat} (h : oldE old = 0) (hn : old.length = n) : n ≤ 1000000 := by
  subst hn
  unfold oldE at h
  split at h
  · rename_i e
    have : old.length = 0 := by first | exact e | (rw [e]; rfl)
    omega
  · rename_i e
    unfold recErr at h
    rw [if_neg e] at h
    have := (rowErr_ok.1 h).1
    omega
/-- the indexes stay alike -/
theorem twin_step (o : TOp) (M : Kv (List TVal)) (FF : List (List Int)) (h6 : FF.length ≤ 6) : (doT o M (twinFrom 0 FF) FF.length).2.2 = (twinFrom 0 (refFF o FF), (refFF o FF).length) := by
  unfold doT refFF
  by_cases hz : checkT o = 0
  · rw [if_neg (c := ¬ checkT o = 0) (by simpa using hz), if_neg (c := ¬ checkT o = 0) (by simpa using hz)]
    have hall := firstN_all hz
    unfold errsT at hall
    by_cases k1 : o.k = 1
    · rw [if_pos k1, if_neg (by omega), if_neg (by omega)]
    rw [if_neg k1]
    by_cases k2 : o.k = 2
    · rw [if_pos k2, if_neg (by omega), if_neg (by omega)]
    rw [if_neg k2]
    by_cases k3 : o.k = 3
    · rw [if_pos k3, if_neg (by omega), if_neg (by omega)]
    rw [if_neg k3]
    by_cases k4 : o.k = 4
    · rw [if_pos k4, if_neg (by omega), if_neg (by omega)]
    rw [if_neg k4]
    by_cases k5 : o.k = 5
    · rw [if_pos k5, if_neg (by omega), if_neg (by omega)]
    rw [if_neg k5]
    by_cases k6 : o.k = 6
    · rw [if_pos k6, if_neg (by omega), if_neg (by omega)]
    rw [if_neg k6]
    by_cases k7 : o.k = 7
    · rw [if_pos k7, if_pos k7]
      have a0 : idxErr 1 o.fs = 0 := hall _ (by
        rw [if_neg (by omega), if_neg (by omega), if_neg (by omega), if_neg (by omega), if_neg (by omega), if_pos k7]
        simp)
      have h := decl_plain h6 (fs_ne a0)
      have h2 := congrArg (fun x : Ans × List (Int × List Int) × Nat => x.2) h
      simp only at h2
      rw [← h2]
      by_cases h6' : FF.length = 6
      · rw [if_pos h6', if_pos h6']
      · rw [if_neg h6', if_neg h6']
    rw [if_neg k7, if_neg k7]
    by_cases k8 : o.k = 8
    · rw [if_pos k8, if_pos k8]
      cases hi : idxF o.id FF with
      | none =>
        rw [drop_none hi]
        rfl
      | some fs =>
        rw [drop_some hi]
        simp
    · rw [if_neg k8, if_neg k8]
  · rw [if_pos hz, if_pos hz]
section
variable {w : World} {B tb : Nat} {rv xv : Value} {rs : Kv (Value × List TVal)} {F : List (Value × List Int)}
set_option maxHeartbeats 1600000 in
theorem ref_any (h : RSt w B tb rv xv rs F) (v : Value) (o : TOp) (C : Nat) (hC : C ≤ w.heap.size) (ho : OpIs w C v o) (hl : rs.length ≤ 1000) :
    Calls Tryz.prog 10 #[.pointer (some ⟨tb, 0, none⟩), v] w
      (RefPost B tb (doT o (mapK (·.2) rs) (twinFrom 0 (F.map (·.2))) (F.map (·.2)).length).2.1 (refFF o (F.map (·.2))) (doT o (mapK (·.2) rs) (twinFrom 0 (F.map (·.2))) (F.map (·.2)).length).1 w) := by
  have ho' := ho
  obtain ⟨rv', ov, fv, lv, hv, rfl, h1, h2, h3, h4, h5⟩ := ho
  have g4 := h4
  have g5 := h5
  obtain ⟨Ar, nr, cr, rfl, -, -, hrc, hin⟩ := h1
  obtain ⟨Ao, no, co, rfl, -, -, hold, -⟩ := h2
  obtain ⟨Af, nf, cf, rfl, -, -, hfh, hfi⟩ := h3
  obtain ⟨Al, nl, cl, rfl, -⟩ := h4
  obtain ⟨Ah, nh, ch, rfl, -⟩ := h5
  obtain ⟨k, key, to, rc, old, id, fs, low, high, lim, sp, nd⟩ := o
  have hmost : (F.map (·.2)).length ≤ 6 := by rw [List.length_map]; exact h.few
  unfold doT refFF
  by_cases hz : checkT ⟨k, key, to, rc, old, id, fs, low, high, lim, sp, nd⟩ = 0
  · rw [if_neg (c := ¬ checkT ⟨k, key, to, rc, old, id, fs, low, high, lim, sp, nd⟩ = 0) (by simpa using hz), if_neg (c := ¬ checkT ⟨k, key, to, rc, old, id, fs, low, high, lim, sp, nd⟩ = 0) (by simpa using hz)]
    have hall := firstN_all hz
    unfold errsT at hall
    dsimp only at hall hold hrc hin hfh hfi ⊢
    by_cases k1 : k = 1
    · subst k1
      have a0 := keyE_ok (hall (keyE key) (by simp))
      have a1 := hall (recErr rc) (by simp)
      exact ref_k1 h C hC key to rc old low high id lim sp nd fs Ar Ao Af Al Ah nr cr no co nf cf nl cl nh ch ho' hz hl hrc ⟨a1, hin⟩ a0.1
    rw [if_neg k1]
    by_cases k2 : k = 2
    · subst k2
      exact ref_k2 h C hC key to rc old low high id lim sp nd fs Ar Ao Af Al Ah nr cr no co nf cf nl cl nh ch ho' hz hl
    rw [if_neg k2]
    by_cases k3 : k = 3
    · subst k3
      exact ref_k3 h C hC key to rc old low high id lim sp nd fs Ar Ao Af Al Ah nr cr no co nf cf nl cl nh ch ho' hz hl
    rw [if_neg k3]
    by_cases k4 : k = 4
    · subst k4
      have a0 := keyE_ok (hall (keyE key) (by simp))
      have a1 := hall (recErr rc) (by simp)
      exact ref_k4 h C hC key to rc old low high id lim sp nd fs Ar Ao Af Al Ah nr cr no co nf cf nl cl nh ch ho' hz hl hrc ⟨a1, hin⟩ a0.1 hold (old_len (hall (oldE old) (by simp)) hold.1)
    rw [if_neg k4]
    by_cases k5 : k = 5
    · subst k5
      have a0 := inE_ok (hall (inE lim 1 64) (by simp))
      obtain ⟨m, rfl⟩ : ∃ m : Nat, lim = (m : Int) := ⟨lim.toNat, by omega⟩
      have hr := ref_k5 h C hC key to rc old low high id sp nd m fs Ar Ao Af Al Ah nr cr no co nf cf nl cl nh ch ho' hz hl (by omega)
      rw [if_pos rfl, scan_plain ((rise_map _).2 h.rise)]
      exact hr
    rw [if_neg k5]
    by_cases k6 : k = 6
    · subst k6
      have a0 := inE_ok (hall (inE lim 1 64) (by simp))
      have a1 := inE_ok (hall (inE id 1 6) (by simp))
      obtain ⟨m, rfl⟩ : ∃ m : Nat, lim = (m : Int) := ⟨lim.toNat, by omega⟩
      rw [if_pos rfl]
      cases hi : idxF id (F.map (·.2)) with
      | none =>
        have hr := ref_k6n h C hC key to rc old low high id m sp nd fs Ar Ao Af Al Ah nr cr no co nf cf nl cl nh ch ho' hz hl hi (by unfold InI64; omega)
        simp only [query_none hi]
        exact hr
      | some gs =>
        obtain ⟨j, x1, hx1, -, hx0, rfl⟩ := idxF_some hi
        exact ref_k6s h j C hC key to rc old low high sp nd m fs Ar Ao Af Al Ah nr cr no co nf cf nl cl nh ch ho' hz hl x1 hx1 hx0 g4 g5
    rw [if_neg k6]
    by_cases k7 : k = 7
    · subst k7
      have a0 := hall (idxErr 1 fs) (by simp)
      have hr := ref_k7 h C hC key to rc old low high id lim sp nd fs Ar Ao Af Al Ah nr cr no co nf cf nl cl nh ch ho' hz hl hfh (fs_two a0) hfi
      rw [if_pos rfl, if_pos rfl]
      have hd := congrArg (fun x : Ans × List (Int × List Int) × Nat => x.1) (decl_plain hmost (fs_ne a0))
      simp only at hd
      rw [← hd] at hr
      by_cases h6 : (F.map (·.2)).length = 6
      · rw [if_pos h6] at hr ⊢
        exact hr
      · rw [if_neg h6] at hr ⊢
        exact hr
    rw [if_neg k7, if_neg k7]
    by_cases k8 : k = 8
    · subst k8
      have a1 := inE_ok (hall (inE id 1 6) (by simp))
      rw [if_pos rfl, if_pos rfl]
      cases hi : idxF id (F.map (·.2)) with
      | none =>
        rw [drop_none hi]
        exact ref_k8n h C hC key to rc old low high id lim sp nd fs Ar Ao Af Al Ah nr cr no co nf cf nl cl nh ch ho' hz hl hi (by unfold InI64; omega)
      | some gs =>
        rw [drop_some hi]
        obtain ⟨j, x1, hx1, -, hx0, rfl⟩ := idxF_some hi
        have hr := ref_k8s h j C hC key to rc old low high lim sp nd fs Ar Ao Af Al Ah nr cr no co nf cf nl cl nh ch ho' hz hl x1 hx1 hx0
        rw [show ((j : Int) + 1 - 1).toNat = j from by omega]
        exact hr
    rw [if_neg k8, if_neg k8]
    have hk : 8 < k := by
      rcases Int.lt_or_le 8 k with hk | hk
      · exact hk
      · exfalso
        have := hall 1 (by
          rw [if_neg k1, if_neg (by omega), if_neg k4, if_neg k5, if_neg k6, if_neg k7, if_neg k8, if_neg (by omega), if_neg (by omega), if_neg (by omega)]
          simp)
        cases this
    exact ref_other h k C hC key to rc old low high id lim sp nd fs Ar Ao Af Al Ah nr cr no co nf cf nl cl nh ch ho' hz hl hk
  · rw [if_pos hz, if_pos hz]
    exact ref_err h k C hC key to rc old low high id lim sp nd fs Ar Ao Af Al Ah nr cr no co nf cf nl cl nh ch ho' hz
end
end Go.Proofs.YtknfjajmnlpfjaaGreat

namespace Go.Proofs.YtknfjajmnlpfjaaGreat
open Go.RowKit
open Go.Lib (strCells compareBytes)

/-- both stores stand, and tell the same -/
structure Twin (w : World) (B sb mb tb : Nat) (S : PSt) (FF : List (List Int)) : Prop where
  st : Stands w B sb mb S
  rf : RAbs w B tb S.1 FF
  tw : S.2 = (twinFrom 0 FF, FF.length)
section
variable {w w' : World} {B sb mb tb : Nat} {S : PSt} {FF : List (List Int)}
theorem RAbs.six (h : RAbs w B tb S.1 FF) : FF.length ≤ 6 := by
  obtain ⟨rv, xv, rs, F, hr, -, rfl⟩ := h
  rw [List.length_map]
  exact hr.few
theorem RAbs.below {M : Kv (List TVal)} (h : RAbs w B tb M FF) (hb : Below w.heap.size w w') : RAbs w' B tb M FF := by
  obtain ⟨rv, xv, rs, F, hr, h1, h2⟩ := h
  exact ⟨rv, xv, rs, F, hr.below hb, h1, h2⟩
theorem RAbs.stays {M : Kv (List TVal)} (h : RAbs w B tb M FF) (hs : Stays w w') : RAbs w' B tb M FF := by
  obtain ⟨rv, xv, rs, F, hr, h1, h2⟩ := h
  refine ⟨rv, xv, rs, F, hr.frame fun i cur t hi ht _ => ?_, h1, h2⟩
  rw [hs i cur t (0, 0) hi (by rcases ht with e | e | e | e | e <;> rw [e] <;> decide) (by rcases ht with e | e | e | e | e <;> rw [e] <;> decide), hi]
theorem Stands.belowS (h : Stands w B sb mb S) (hb : Below w.heap.size w w') : Stands w' B sb mb S := by
  obtain ⟨ix, E, X, h1, h2, h3⟩ := h
  exact ⟨ix, E, X, h1.below hb, h2, h3⟩
theorem Stands.rkept {b : Nat} (h : Stands w B sb mb S) (hk : RKept b w w') : Stands w' B sb mb S := by
  obtain ⟨ix, E, X, h1, h2, h3⟩ := h
  refine ⟨ix, E, X, h1.frame fun i o hi ho _ => ?_, h2, h3⟩
  rw [hk.keep i o hi fun cur t fz e => ?_, hi]
  subst e
  simp only at ho
  rcases ho with e | e | e | e <;> rw [e] <;> exact ⟨by decide, by decide⟩
theorem own_rkept {b m size B' : Nat} {e : TypeId} {v : Value} {xs : List Value} (h : w.ownsRow B' e size v m xs) (hk : RKept b w w') (h1 : e ≠ 47) (h2 : e ≠ 37) : w'.ownsRow B' e size v m xs :=
  own_keep h fun g hg => by
    obtain ⟨cur, hc⟩ := own_type h hg
    rw [hk.keep g _ hc fun cur' t fz e' => by injection e' with _ e' _; subst e'; exact ⟨h1, h2⟩, hc]
theorem AnsIs.rkept {b b' : Nat} {v : Value} {a : Ans} (h : AnsIs w b' v a) (hk : RKept b w w') : AnsIs w' b' v a := by
  obtain ⟨rv, sv, e, h1, rs, ⟨g1, g2⟩, e2⟩ := h
  exact ⟨rv, sv, e, own_rkept h1 hk (by decide) (by decide), rs, ⟨own_rkept g1 hk (by decide) (by decide), fun r hr => own_rkept (g2 r hr) hk (by decide) (by decide)⟩, e2⟩
theorem Twin.below (h : Twin w B sb mb tb S FF) (hb : Below w.heap.size w w') : Twin w' B sb mb tb S FF := ⟨h.st.belowS hb, h.rf.below hb, h.tw⟩
theorem twin_s (h : Twin w B sb mb tb S FF) (v : Value) (o : TOp) (C : Nat) (hC : C ≤ sb) (ho : OpIs w C v o) (hl : S.1.length ≤ 1000) :
    Calls Tryz.prog 9 #[.pointer (some ⟨sb, 0, none⟩), v] w fun e w' => ∃ u, e = .returned u ∧ AnsIs w' w.heap.size u (doT o S.1 S.2.1 S.2.2).1 ∧ Stands w' B sb mb (stepT S o) ∧ RAbs w' B tb S.1 FF ∧ Below B w w' := by
  refine (step_stays h.st v o C hC ho hl).mono ?_
  rintro e w' ⟨u, rfl, ha, hs, hb, hq⟩
  exact ⟨u, rfl, ha, hs, h.rf.stays hq, hb⟩
theorem twin_t {S' : PSt} {u1 : Value} {b1 : Nat} {a1 : Ans} (hr : RAbs w B tb S.1 FF) (htw : S.2 = (twinFrom 0 FF, FF.length)) (hs : Stands w B sb mb S') (ha : AnsIs w b1 u1 a1) (v : Value) (o : TOp) (C : Nat) (hC : C ≤ w.heap.size) (ho : OpIs w C v o) (hl : S.1.length ≤ 1000) (hS : S' = stepT S o) :
    Calls Tryz.prog 10 #[.pointer (some ⟨tb, 0, none⟩), v] w fun e w' => ∃ u, e = .returned u ∧ AnsIs w' B u (doT o S.1 S.2.1 S.2.2).1 ∧ AnsIs w' b1 u1 a1 ∧ Twin w' B sb mb tb S' (refFF o FF) ∧ Below B w w' := by
  obtain ⟨M, I, n⟩ := S
  have h6 := RAbs.six (S := (M, I, n)) hr
  simp only [Prod.mk.injEq] at htw
  obtain ⟨rfl, rfl⟩ := htw
  have htwin := twin_step o M FF h6
  obtain ⟨rv, xv, rs, F, hR, rfl, rfl⟩ := hr
  refine (ref_any hR v o C hC ho (by simpa [mapK_len] using hl)).mono ?_
  rintro e w' ⟨u, rfl, hau, hra, hk⟩
  refine ⟨u, rfl, hau, ha.rkept hk, ⟨hs.rkept hk, ?_, ?_⟩, hk.below⟩
  · rw [hS]
    exact hra
  · rw [hS]
    exact htwin
theorem twin_shownS (h : Twin w B sb mb tb S FF) (id : Int) (hl : S.1.length ≤ 1000) :
    Calls Tryz.prog 12 #[.pointer (some ⟨sb, 0, none⟩), .int .i64 id] w fun e w' => ∃ v, e = .returned v ∧ w'.ownsRow w.heap.size 9 1 v (shownI id (twinFrom 0 FF) S.1).length (strRow (shownI id (twinFrom 0 FF) S.1)) ∧ Below w.heap.size w w' := by
  have htw := h.tw
  obtain ⟨ix, E, X, h1, h2, h3⟩ := h.st
  have hE : E.length ≤ 1000 := by rw [← h2, mapK_len] at hl; exact hl
  have hs := shown_any h1 id hE
  rw [shownT_I, h2, h3, htw] at hs
  exact hs
theorem twin_shownT (h : Twin w B sb mb tb S FF) (id : Int) (hi : InI64 id) (hl : S.1.length ≤ 1000) :
    Calls Tryz.prog 13 #[.pointer (some ⟨tb, 0, none⟩), .int .i64 id] w fun e w' => ∃ v, e = .returned v ∧ w'.ownsRow w.heap.size 9 1 v (shownI id (twinFrom 0 FF) S.1).length (strRow (shownI id (twinFrom 0 FF) S.1)) ∧ Below w.heap.size w w' := by
  obtain ⟨rv, xv, rs, F, hR, h1, h2⟩ := h.rf
  have hs := refShown_any hR id hi (by rw [← h1, mapK_len] at hl; exact hl)
  rw [h1, h2] at hs
  exact hs
theorem shownI_len (id : Int) (I : List (Int × List Int)) (M : Kv (List TVal)) : (shownI id I M).length ≤ M.length := by
  unfold shownI
  cases I[idxT id I]? with
  | none => simp
  | some x =>
    simp only
    rw [List.length_mergeSort]
    exact List.length_filterMap_le _ _
theorem twin_rows (h : Twin w B sb mb tb S FF) : ∃ A c rs, w.cell? ⟨tb, 0, none⟩ = some (.slice A S.1.length c) ∧ HasRows w w.heap.size A S.1.length rs ∧ mapK (·.2) rs = S.1 := by
  obtain ⟨rv, xv, rs, F, hR, h1, h2⟩ := h.rf
  have hrows := hR.rows
  obtain ⟨A, c, rfl, -, -, hh⟩ := own_sliceN hrows
  have hlen : rs.length = S.1.length := by rw [← h1, mapK_len]
  rw [hlen] at hh
  refine ⟨A, c, rs, by rw [← hlen]; exact hR.cells.1, ⟨hlen, hh, fun r hr => ?_⟩, h1⟩
  obtain ⟨A', c', e, g1, g2, g3⟩ := own_sliceN (hR.recs r hr)
  exact ⟨A', _, c', e, Nat.le_trans g1 g2, rfl, g3⟩
theorem twin_indexes (h : Twin w B sb mb tb S FF) :
    Calls Tryz.prog 18 #[.pointer (some ⟨tb, 0, none⟩)] w fun e w' => ∃ A c X, e = .returned (.slice A S.2.1.length c) ∧ HasIdx w' w'.heap.size A S.2.1.length X ∧ X.map xi = S.2.1 ∧ Below w.heap.size w w' := by
  have htw := h.tw
  obtain ⟨rv, xv, rs, F, hR, h1, h2⟩ := h.rf
  have e : (twinX 0 F).map xi = S.2.1 := by rw [twinX_xi, h2, htw]
  have hl : (twinX 0 F).length = S.2.1.length := by rw [← e, List.length_map]
  refine (refIndexes_any hR).mono ?_
  rintro x w' ⟨v, rfl, ho, hb⟩
  obtain ⟨A, c, rfl, -, -, hh⟩ := own_sliceN ho
  rw [hl] at hh ⊢
  refine ⟨A, c, twinX 0 F, rfl, ⟨hl, hh, fun y hy => ?_⟩, e, hb⟩
  have hm := twinX_mem F 0 y hy
  have hf := (hR.below hb).flds _ hm
  obtain ⟨Af, cf, ev, -, -, hi⟩ := own_slice hf
  have h2' := (hR.ints _ hm).1
  exact ⟨Af, cf, ev, by simp only at h2'; omega, rfl, hi⟩
end
end Go.Proofs.YtknfjajmnlpfjaaGreat

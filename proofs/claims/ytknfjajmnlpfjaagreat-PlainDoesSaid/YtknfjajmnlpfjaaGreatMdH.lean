/- Do of the document's store of layer 5: what is wrong, and what does nothing. Condition: the store and the operation are in memory. -/
import Derived.Test.YtknfjajmnlpfjaaGreatMdE
namespace Go.Proofs.YtknfjajmnlpfjaaGreat
open Go.RowKit
open Go.Lib (strCells compareBytes)

theorem rint_elem : ElemN Tryz.prog 3 1 8 (.int .i64 0) := ⟨by kernel_rfl, rfl⟩
theorem one_slice (A : Option Addr) (n c : Nat) : ∀ u ∈ [Value.slice A n c], u.oneCell' = true := by
  intro u hu
  simp at hu
  subst hu
  rfl
theorem own_eqI {w : World} {B m m' : Nat} {v : Value} {xs xs' : List Value} (h : w.ownsRow B 3 1 v m xs) (hm : m = m') (hx : xs = xs') : w.ownsRow B 3 1 v m' xs' := by
  subst hm
  subst hx
  exact h
section
variable {w : World} {B tb : Nat} {rv xv : Value} {rs : Kv (Value × List TVal)} {F : List (Value × List Int)}
/-- one index more -/
theorem refDecl_end {wA wL wB W : World} {ov xv' : Value} {fs : List Int} (h : RSt w B tb rv xv rs F) (bA : Below w.heap.size w wA) (oA : wA.ownsRow w.heap.size 3 1 ov fs.length (intCells fs)) (bL : Below wA.heap.size wA wL) (gB : wL.grownBy wB xv.ownBlock) (oB : wB.ownsRow B 37 1 xv' (F.length + 1) (F.map (·.1) ++ [ov]))
    (hf : fs.length ≤ 2 ∧ ∀ n ∈ fs, InI64 n) (h6 : F.length < 6) (hW : wB.setCell ⟨tb, 1, none⟩ xv' = W) : RSt W B tb rv xv' rs (F ++ [(ov, fs)]) ∧ RKept B w W := by
  have hbL : Below w.heap.size w wL := bA.trans (bL.mono bA.size)
  have hx : ∀ g, xv.ownBlock = some g → g ≠ tb := fun g hg e => by
    obtain ⟨cur, hc⟩ := own_type h.xrow hg
    have hb := h.box
    unfold Box at hb
    rw [e, hb] at hc
    injection hc with hc; injection hc with _ hc; exact absurd hc (by decide)
  have hk : ∀ i, i < wL.heap.size → i ≠ tb → some i ≠ xv.ownBlock → W.heap[i]? = wL.heap[i]? := fun i hi h1 h2 => by
    rw [← hW, Below.heap_setCell _ _ _ _ h1, gB.block i hi h2]
  have hbx : Box W tb 47 #[rv, xv'] := hW ▸ ((h.box.below hbL h.lt).grown gB (fun e => hx tb e.symm rfl)).set_ 1 xv'
  have hne : ∀ {size m b : Nat} {e : TypeId} {v : Value} {xs : List Value}, e ≠ 47 → e ≠ 37 → w.ownsRow b e size v m xs → W.ownsRow b e size v m xs := fun he1 he2 ho => own_keep ho fun i hi => by
    obtain ⟨cur, hc⟩ := own_type ho hi
    rw [hk i (Nat.lt_of_lt_of_le (ho.lt i hi).2 hbL.size) (fun e => ?_) (fun e => ?_), hbL.block i (ho.lt i hi).2]
    · have hb := h.box
      unfold Box at hb
      rw [e, hb] at hc
      injection hc with hc; injection hc with _ hc; exact he1 hc.symm
    · obtain ⟨cur', hc'⟩ := own_type h.xrow e.symm
      rw [hc'] at hc
      injection hc with hc; injection hc with _ hc; exact he2 hc.symm
  have hov : W.ownsRow w.heap.size 3 1 ov fs.length (intCells fs) := own_keep oA fun i hi => by
    have h1 := oA.lt i hi
    rw [hk i (Nat.lt_of_lt_of_le h1.2 bL.size) (fun e => by have := h.lt; omega) (fun e => by have := (h.xrow.lt i e.symm).2; omega), bL.block i h1.2]
  refine ⟨{ tB := h.tB, box := hbx, rows := hne (by decide) (by decide) h.rows, recs := fun r hr => hne (by decide) (by decide) (h.recs r hr), rise := h.rise, good := h.good, xrow := ?_, flds := fun x hx => ?_, few := by rw [List.length_append]; simp; omega, ints := fun x hx => ?_ }, ⟨⟨?_, ?_, ?_, ?_, fun i hi => ?_⟩, fun i o hi ho => ?_⟩⟩
  · rw [List.length_append, List.map_append]
    refine own_keep oB fun i hi => ?_
    rw [← hW]
    refine Below.heap_setCell _ _ _ _ fun e => ?_
    have e' : i = tb := e
    obtain ⟨cur, hc⟩ := own_type oB hi
    have hb := (h.box.below hbL h.lt).grown gB (fun e => hx tb e.symm rfl)
    unfold Box at hb
    rw [e', hb] at hc
    injection hc with hc; injection hc with _ hc; exact absurd hc (by decide)
  · rcases List.mem_append.1 hx with hx | hx
    · exact hne (by decide) (by decide) (h.flds x hx)
    · simp only [List.mem_singleton] at hx
      subst hx
      exact own_base hov h.old
  · rcases List.mem_append.1 hx with hx | hx
    · exact h.ints x hx
    · simp only [List.mem_singleton] at hx
      subst hx
      exact hf
  · rw [← hW]; exact gB.os.trans hbL.os
  · rw [← hW]; exact gB.tape.trans hbL.tape
  · rw [← hW]; exact gB.output.trans hbL.output
  · rw [← hW]; simp only [World.setCell, Array.size_modify]; exact Nat.le_trans hbL.size gB.size
  · have hB := h.old
    rw [hk i (by have := hbL.size; omega) (fun e => by have := h.tB; omega) (fun e => by have := (h.xrow.lt i e.symm).1; omega), hbL.block i (by omega)]
  · have hil := (Array.getElem?_eq_some_iff.1 hi).1
    rw [hk i (Nat.lt_of_lt_of_le hil hbL.size) (fun e => ?_) (fun e => ?_), hbL.block i hil]
    · exact hi
    · have hb := h.box
      unfold Box at hb
      rw [e, hb] at hi
      injection hi with hi
      exact (ho _ _ _ hi.symm).1 rfl
    · obtain ⟨cur', hc'⟩ := own_type h.xrow e.symm
      rw [hc'] at hi
      injection hi with hi
      exact (ho _ _ _ hi.symm).2 rfl
/-- what declaring answers and leaves -/
def declR (fs : List Int) (FF : List (List Int)) : Ans × List (List Int) := if 6 ≤ FF.length then (⟨17, false, [], [], 0⟩, FF) else (⟨0, false, [], [], (FF.length : Int) + 1⟩, FF ++ [fs])
set_option maxRecDepth 100000 in
set_option maxHeartbeats 3200000 in
theorem ref_k7 (h : RSt w B tb rv xv rs F) (C : Nat) (hC : C ≤ w.heap.size) (key to : ByteArray) (rc old low high : List TVal) (id lim sp nd : Int) (fs : List Int) (Ar Ao Af Al Ah : Option Addr) (nr cr no co nf cf nl cl nh ch : Nat)
    (ho : OpIs w C (.agg #[.int .i64 7, .string key, .string to, .slice Ar nr cr, .slice Ao no co, .int .i64 id, .slice Af nf cf, .slice Al nl cl, .slice Ah nh ch, .int .i64 lim, .int .i64 sp, .int .i64 nd]) ⟨7, key, to, rc, old, id, fs, low, high, lim, sp, nd⟩) (hz : checkT ⟨7, key, to, rc, old, id, fs, low, high, lim, sp, nd⟩ = 0) (hl : rs.length ≤ 1000) (hfh : HasInts w C Af nf fs) (hf2 : fs.length ≤ 2) (hfi : ∀ n ∈ fs, InI64 n) :
    Calls Tryz.prog 10 #[.pointer (some ⟨tb, 0, none⟩), .agg #[.int .i64 7, .string key, .string to, .slice Ar nr cr, .slice Ao no co, .int .i64 id, .slice Af nf cf, .slice Al nl cl, .slice Ah nh ch, .int .i64 lim, .int .i64 sp, .int .i64 nd]] w (RefPost B tb (mapK (·.2) rs) (declR fs (F.map (·.2))).2 (declR fs (F.map (·.2))).1 w) := by
  obtain ⟨w00, hw00⟩ : ∃ w00, w.alloc (.cells #[.int .i64 7, .string key, .string to, .slice Ar nr cr, .slice Ao no co, .int .i64 id, .slice Af nf cf, .slice Al nl cl, .slice Ah nh ch, .int .i64 lim, .int .i64 sp, .int .i64 nd] 39) = w00 := ⟨_, rfl⟩
  have hb00 : Below w.heap.size w w00 := hw00 ▸ below_alloc _ _
  have hbo0 : Box w00 w.heap.size 39 #[.int .i64 7, .string key, .string to, .slice Ar nr cr, .slice Ao no co, .int .i64 id, .slice Af nf cf, .slice Al nl cl, .slice Ah nh ch, .int .i64 lim, .int .i64 sp, .int .i64 nd] := hw00 ▸ Box.made _ _ _
  have hs00 : w00.heap.size = w.heap.size + 1 := by rw [← hw00]; simp
  obtain ⟨w0, hw0⟩ : ∃ w0, w00.alloc (.cells #[.int .i64 0, .bool false, .slice none 0 0, .slice none 0 0, .int .i64 0] 35) = w0 := ⟨_, rfl⟩
  have hb0 : Below w.heap.size w w0 := Below.then hb00 (hw0 ▸ below_alloc _ _)
  have hbx : Box w0 (w.heap.size + 1) 35 #[.int .i64 0, .bool false, .slice none 0 0, .slice none 0 0, .int .i64 0] := hw0 ▸ made_at hs00 _ _
  have hbo : Box w0 w.heap.size 39 #[.int .i64 7, .string key, .string to, .slice Ar nr cr, .slice Ao no co, .int .i64 id, .slice Af nf cf, .slice Al nl cl, .slice Ah nh ch, .int .i64 lim, .int .i64 sp, .int .i64 nd] := hw0 ▸ hbo0.alloc _
  have hsz : w0.heap.size = w.heap.size + 1 + 1 := by rw [← hw0]; simp [hs00]
  have hchk := refCheck_any _ _ C w0 (Nat.le_trans hC hb0.size) (ho.belowOf hb0 hC)
  have e0 := hbo.cell 0; have e1 := hbo.cell 1; have e2 := hbo.cell 2; have e3 := hbo.cell 3; have e4 := hbo.cell 4; have e5 := hbo.cell 5
  have e6 := hbo.cell 6; have e7 := hbo.cell 7; have e8 := hbo.cell 8; have e9 := hbo.cell 9; have e10 := hbo.cell 10; have e11 := hbo.cell 11
  have H := Lib.hid h
  have Hbx := Lib.hid hbx
  have Hbo := Lib.hid hbo
  have Hb0 := Lib.hid hb0
  have Hsz := Lib.hid hsz
  have Hchk := Lib.hid hchk
  clear hbo hbo0 hb00 hb0 hbx hsz hchk h ho
  rw [hz] at Hchk
  go_enter Tryz.func10, Tryz.ntmps10
  go_wp2_with fail
  refine Hchk.out.mono ?_
  rintro e w1 ⟨rfl, hb1⟩
  have hbo1 := Hbo.out.below hb1 Hbo.out.lt
  obtain ⟨a0, a1, a2, a3, a4, a5, a6, a7, a8, a9, a10, a11⟩ := box12R hbo1
  have Hbo1 := Lib.hid hbo1
  have Hb1 := Lib.hid hb1
  have Hbw := Lib.hid (Below.trans Hb0.out (hb1.mono (by rw [Hsz.out]; omega)))
  have Hbx1 := Lib.hid (Hbx.out.below hb1 Hbx.out.lt)
  have Hlt1 : Hid (w.heap.size + 1 < w1.heap.size) := Lib.hid (by have := hb1.size; have := Hsz.out; omega)
  clear hbo1 hb1
  have Hfind := Lib.hid (refFind_any (H.out.below Hbw.out) key hl)
  have hrise := H.out.rise
  obtain ⟨P, hP⟩ : ∃ P, posK key.data.toList rs = P := ⟨_, rfl⟩
  obtain ⟨is, his⟩ : ∃ b, (getK key.data.toList rs).isSome = b := ⟨_, rfl⟩
  have hget := getK_pos key.data.toList rs hrise
  rw [hP, his] at Hfind
  rw [hP] at hget
  have HP := Lib.hid hP
  have HS := Lib.hid his
  have Hget := Lib.hid hget
  have Hl := Lib.hid hl
  have His : Hid (is = (getK key.data.toList (mapK (·.2) rs)).isSome) := Lib.hid (by rw [← his]; exact (isSome_mapK _ _).symm)
  clear hP his hget hrise hl
  go_wp2_with fail
  refine Hfind.out.mono ?_
  rintro e w2 ⟨rfl, m2, h2⟩
  have hbo2 := Hbo1.out.below (below_drews (Below.refl w1.heap.size w1) m2) Hbo1.out.lt
  have hbx2 := Hbx1.out.below (below_drews (Below.refl w1.heap.size w1) m2) Hbx1.out.lt
  rw [← h2] at hbo2 hbx2
  have Hb2 : Hid (Below w.heap.size w w2) := Lib.hid (by rw [h2]; exact below_drews Hbw.out m2)
  have Hlt2 : Hid (w.heap.size + 1 < w2.heap.size) := Lib.hid (by rw [h2]; exact Hlt1.out)
  have HR2 : Hid (RSt w2 B tb rv xv rs F) := Lib.hid (H.out.below Hb2.out)
  have Hbx2 := Lib.hid hbx2
  have Hbo2 := Lib.hid hbo2
  have Htb := Lib.hid H.out.lt
  clear h2 a0 a1 a2 a3 a4 a5 a6 a7 a8 a9 a10 a11
  obtain ⟨a0, a1, a2, a3, a4, a5, a6, a7, a8, a9, a10, a11⟩ := box12R hbo2
  obtain ⟨tc0, tc1, -, -⟩ := HR2.out.cells
  have hrw := HR2.out.rows
  obtain ⟨Aw, N, cw, hre, hwl⟩ : ∃ Aw N cw, rv = .slice Aw N cw ∧ rs.length = N := by
    obtain ⟨A', c', e, -⟩ := own_sliceN hrw
    exact ⟨A', _, c', e, rfl⟩
  rw [hre] at tc0
  clear hbo2 hbx2
  cases is with
  | true =>
    obtain ⟨x, hx, hxk⟩ : ∃ x, rs[P]? = some x ∧ getK key.data.toList rs = some x.2 := by
      have h1 := Hget.out
      have h2 := HS.out
      rw [h1] at h2
      cases hp : rs[P]? with
      | none => rw [hp] at h2; cases h2
      | some x =>
        rw [hp] at h1 h2
        refine ⟨x, rfl, ?_⟩
        simp only [Option.bind_some] at h1 h2
        by_cases e : x.1 = key.data.toList
        · rw [if_pos e] at h1
          exact h1
        · rw [if_neg e] at h2
          cases h2
    have hPN : P < N := by rw [← hwl]; exact (List.getElem?_eq_some_iff.1 hx).1
    have hrw' := hrw
    rw [hre, hwl] at hrw'
    obtain ⟨aw, rfl, hcw⟩ := row_cellR hrw' hPN hx
    have hxo := HR2.out.recs x (List.mem_of_getElem? hx)
    obtain ⟨Ax, cx, ex, -⟩ := own_sliceN hxo
    obtain ⟨zx, hzx⟩ : ∃ z, x.2.2.length = z := ⟨_, rfl⟩
    rw [hzx] at ex
    rw [ex] at hcw
    have Hxo : Hid (w2.ownsRow B 53 3 (.slice Ax zx cx) x.2.2.length (valCells x.2.2)) := Lib.hid (by rw [← ex]; exact hxo)
    have Hzx := Lib.hid hzx
    have Hxk : Hid ((getK key.data.toList (mapK (·.2) rs)).getD [] = x.2.2) := Lib.hid (by rw [mapK_get, hxk]; rfl)
    have p0 : (0 : Int) ≤ (P : Int) := by omega
    have p1 : (P : Int) < (N : Int) := by omega
    clear hx hxk hxo ex hrw' hzx
    have hx2 := HR2.out.xrow
    obtain ⟨nF, hnF⟩ : ∃ n, F.length = n := ⟨_, rfl⟩
    rw [hnF] at hx2
    obtain ⟨Ax', cx', hxe, -⟩ := own_slice hx2
    rw [hxe] at tc1
    have HnF := Lib.hid hnF
    have hn6 : nF ≤ 6 := by rw [← hnF]; exact HR2.out.few
    have Hxe := Lib.hid hxe
    rw [hxe] at hx2
    have Hx2 := Lib.hid hx2
    clear hx2 hnF hxe
    by_cases h6 : nF = 6
    · have f6 : (6 : Int) ≤ (nF : Int) := by omega
      have hbx5 := Hbx2.out
      obtain ⟨r0, r1, r2, r3, r4, k0, k1, k2, k3, k4⟩ := box5 hbx5
      obtain ⟨W3, hW3⟩ : ∃ W3, ((((w2.setCell ⟨w.heap.size + 1, 0, none⟩ (.int .i64 17)).setCell ⟨w.heap.size + 1, 1, none⟩ (.bool false)).setCell ⟨w.heap.size + 1, 2, none⟩ (.slice none 0 0)).setCell ⟨w.heap.size + 1, 3, none⟩ (.slice none 0 0)).setCell ⟨w.heap.size + 1, 4, none⟩ (.int .i64 0) = W3 := ⟨_, rfl⟩
      obtain ⟨p0, p1, p2, p3, p4, -⟩ := box5 (box5_store hbx5 hW3)
      have hdecl : declR fs (F.map (·.2)) = (⟨17, false, [], [], 0⟩, F.map (·.2)) := by
        unfold declR
        rw [List.length_map, HnF.out, if_pos (by omega)]
      have hend := clash_end (a := ⟨17, false, [], [], 0⟩) (a' := ⟨17, false, [], [], 0⟩) Hb2.out (Nat.le_succ _) H.out.old (RKept.refl _ _) HR2.out hbx5 (World.ownsRow_nil _ _ _ _) (RowsIs.nil _ _) hW3 rfl rfl
      have Hend : Hid (AnsIs W3 B (replyV 17 false (.slice none 0 0) (.slice none 0 0) 0) (declR fs (F.map (·.2))).1 ∧ RAbs W3 B tb (mapK (·.2) rs) (declR fs (F.map (·.2))).2 ∧ RKept B w W3) := Lib.hid (by rw [hdecl]; exact hend)
      clear hend hdecl
      clear hbx5
      go_wp2
      refine bodyPost_ret (v := replyV 17 false (.slice none 0 0) (.slice none 0 0) 0) ?_ rfl ⟨_, rfl, Hend.out⟩
      simp [results, Tryz.results10, go_sem, replyV, p0, p1, p2, p3, p4]
    · have f6 : ¬ (6 : Int) ≤ (nF : Int) := by omega
      have hlf : fs.length = nf := hfh.1
      have Hfs : Hid (Has w2.drew C Af (nf * 1) (intCells fs)) := Lib.hid (by
        have := (hfh.belowOf Hb2.out hC).2
        rw [Nat.mul_one]
        exact this)
      have B1d : Below w2.heap.size w2 w2.drew := below_drew _
      have Hx2d : Hid (w2.drew.ownsRow B 37 1 (.slice Ax' nF cx') nF (F.map (·.1))) := Lib.hid Hx2.out
      have Htb2 : Hid (tb < w2.heap.size) := Lib.hid HR2.out.lt
      have Hnf : Hid (nf ≤ 2) := Lib.hid (by omega)
      have tcd : w2.drew.cell? ⟨tb, 1, none⟩ = some (.slice Ax' nF cx') := tc1
      have Hlf := Lib.hid hlf
      have HBw : Hid (B ≤ w2.heap.size) := Lib.hid (Nat.le_trans H.out.old Hb2.out.size)
      clear hlf
      go_wp2
      go_region_law (first
        | (refine step_append_hasN (by rfl) _ _ _ (by rfl) 3 rint_elem (by omega) Tryz.underlying37 (by rfl) (World.ownsRow_nil w2.drew w2.heap.size 3 1) (by rfl) Hfs.out (intCells_one _) (by have := Hnf.out; simp only [maxLen]; omega) (by have := Hnf.out; omega) (Nat.le_refl _) ?_; intro ov wA oA gA zA; have oA' := own_eqI oA (Nat.zero_add _) (List.nil_append _); obtain ⟨Aq, cq, rfl, -⟩ := own_slice oA'; have bA : Below w2.heap.size w2 wA := Below.then B1d (below_ownN (Below.refl _ _) (World.ownsRow_nil w2.drew w2.heap.size 3 1) gA (Nat.le_refl _)); have tcA := (bA.cell (p := ⟨tb, 1, none⟩) Htb2.out).trans tc1; have bL : Below wA.heap.size wA (wA.alloc (.cells #[.slice Aq nf cq] 37)) := below_alloc _ _; have tcL := (bL.cell (p := ⟨tb, 1, none⟩) (Nat.lt_of_lt_of_le Htb2.out bA.size)).trans tcA)
        | (refine step_append_hasN (by rfl) _ _ _ (by rfl) 37 slint_elem (by omega) Tryz.underlying45 (by rfl) (own_belowN Hx2.out (bA.trans (bL.mono bA.size))) (by rfl) (Has.lit wA #[.slice Aq nf cq] _) (one_slice _ _ _) (by simp only [maxLen]; omega) (by omega) (by have h1 := HBw.out; have h2 := bA.size; have h3 := bL.size; omega) ?_; intro xv' wB oB gB zB; obtain ⟨Ay, cy, rfl, -⟩ := own_slice oB; have bxB := (HR2.out.box.below (bA.trans (bL.mono bA.size)) Htb2.out).grown (by rw [← Hxe.out] at gB; exact gB) (fun e => by obtain ⟨cur, hc⟩ := own_type HR2.out.xrow e.symm; have hb := HR2.out.box; unfold Box at hb; rw [hb] at hc; injection hc with hc; injection hc with _ hc; exact absurd hc (by decide)); have cB := bxB.cell 1; have fB := bxB.frozen 1))
      all_goals
        obtain ⟨W5, hW5⟩ : ∃ W, wB.setCell ⟨tb, 1, none⟩ (.slice Ay (nF + 1) cy) = W := ⟨_, rfl⟩
        have hd := refDecl_end (ov := .slice Aq nf cq) (fs := fs) HR2.out bA (by rw [Hlf.out]; exact oA') bL (by rw [Hxe.out]; exact gB) (by rw [HnF.out]; exact oB) ⟨hf2, hfi⟩ (by rw [HnF.out]; omega) hW5
        have HD := Lib.hid hd.1
        have HK := Lib.hid hd.2
        have tc5 := hd.1.cells.2.1
        have hbx5 : Box W5 (w.heap.size + 1) 35 _ := hd.2.keep _ _ Hbx2.out (fun cur t fz e => by injection e with _ e _; subst e; exact ⟨by decide, by decide⟩)
        clear hd bA oA' bL oB gB zB tcA tcL bxB cB fB oA gA zA
        obtain ⟨r0, r1, r2, r3, r4, k0, k1, k2, k3, k4⟩ := box5 hbx5
        obtain ⟨W3, hW3⟩ : ∃ W3, ((((W5.setCell ⟨w.heap.size + 1, 0, none⟩ (.int .i64 0)).setCell ⟨w.heap.size + 1, 1, none⟩ (.bool false)).setCell ⟨w.heap.size + 1, 2, none⟩ (.slice none 0 0)).setCell ⟨w.heap.size + 1, 3, none⟩ (.slice none 0 0)).setCell ⟨w.heap.size + 1, 4, none⟩ (.int .i64 ((nF : Int) + 1)) = W3 := ⟨_, rfl⟩
        obtain ⟨p0, p1, p2, p3, p4, -⟩ := box5 (box5_store hbx5 hW3)
        have hdecl : declR fs (F.map (·.2)) = (⟨0, false, [], [], (nF : Int) + 1⟩, F.map (·.2) ++ [fs]) := by
          unfold declR
          rw [List.length_map, HnF.out, if_neg (by omega)]
        have hend := clash_end (a := ⟨0, false, [], [], (nF : Int) + 1⟩) (a' := ⟨0, false, [], [], (nF : Int) + 1⟩) Hb2.out (Nat.le_succ _) H.out.old HK.out HD.out hbx5 (World.ownsRow_nil _ _ _ _) (RowsIs.nil _ _) hW3 rfl rfl
        have Hend : Hid (AnsIs W3 B (replyV 0 false (.slice none 0 0) (.slice none 0 0) ((nF : Int) + 1)) (declR fs (F.map (·.2))).1 ∧ RAbs W3 B tb (mapK (·.2) rs) (declR fs (F.map (·.2))).2 ∧ RKept B w W3) := Lib.hid (by rw [hdecl]; rw [List.map_append] at hend; exact hend)
        clear hend hdecl
        clear hbx5
        go_wp2
        refine bodyPost_ret (v := replyV 0 false (.slice none 0 0) (.slice none 0 0) ((nF : Int) + 1)) ?_ rfl ⟨_, rfl, Hend.out⟩
        simp [results, Tryz.results10, go_sem, replyV, p0, p1, p2, p3, p4]
  | false =>
    have Hxk : Hid ((getK key.data.toList (mapK (·.2) rs)).getD [] = []) := Lib.hid (by
      have h1 := His.out
      cases e : getK key.data.toList (mapK (·.2) rs) with
      | none => rfl
      | some x => rw [e] at h1; cases h1)
    have hx2 := HR2.out.xrow
    obtain ⟨nF, hnF⟩ : ∃ n, F.length = n := ⟨_, rfl⟩
    rw [hnF] at hx2
    obtain ⟨Ax', cx', hxe, -⟩ := own_slice hx2
    rw [hxe] at tc1
    have HnF := Lib.hid hnF
    have hn6 : nF ≤ 6 := by rw [← hnF]; exact HR2.out.few
    have Hxe := Lib.hid hxe
    rw [hxe] at hx2
    have Hx2 := Lib.hid hx2
    clear hx2 hnF hxe
    by_cases h6 : nF = 6
    · have f6 : (6 : Int) ≤ (nF : Int) := by omega
      have hbx5 := Hbx2.out
      obtain ⟨r0, r1, r2, r3, r4, k0, k1, k2, k3, k4⟩ := box5 hbx5
      obtain ⟨W3, hW3⟩ : ∃ W3, ((((w2.setCell ⟨w.heap.size + 1, 0, none⟩ (.int .i64 17)).setCell ⟨w.heap.size + 1, 1, none⟩ (.bool false)).setCell ⟨w.heap.size + 1, 2, none⟩ (.slice none 0 0)).setCell ⟨w.heap.size + 1, 3, none⟩ (.slice none 0 0)).setCell ⟨w.heap.size + 1, 4, none⟩ (.int .i64 0) = W3 := ⟨_, rfl⟩
      obtain ⟨p0, p1, p2, p3, p4, -⟩ := box5 (box5_store hbx5 hW3)
      have hdecl : declR fs (F.map (·.2)) = (⟨17, false, [], [], 0⟩, F.map (·.2)) := by
        unfold declR
        rw [List.length_map, HnF.out, if_pos (by omega)]
      have hend := clash_end (a := ⟨17, false, [], [], 0⟩) (a' := ⟨17, false, [], [], 0⟩) Hb2.out (Nat.le_succ _) H.out.old (RKept.refl _ _) HR2.out hbx5 (World.ownsRow_nil _ _ _ _) (RowsIs.nil _ _) hW3 rfl rfl
      have Hend : Hid (AnsIs W3 B (replyV 17 false (.slice none 0 0) (.slice none 0 0) 0) (declR fs (F.map (·.2))).1 ∧ RAbs W3 B tb (mapK (·.2) rs) (declR fs (F.map (·.2))).2 ∧ RKept B w W3) := Lib.hid (by rw [hdecl]; exact hend)
      clear hend hdecl
      clear hbx5
      go_wp2
      refine bodyPost_ret (v := replyV 17 false (.slice none 0 0) (.slice none 0 0) 0) ?_ rfl ⟨_, rfl, Hend.out⟩
      simp [results, Tryz.results10, go_sem, replyV, p0, p1, p2, p3, p4]
    · have f6 : ¬ (6 : Int) ≤ (nF : Int) := by omega
      have hlf : fs.length = nf := hfh.1
      have Hfs : Hid (Has w2.drew C Af (nf * 1) (intCells fs)) := Lib.hid (by
        have := (hfh.belowOf Hb2.out hC).2
        rw [Nat.mul_one]
        exact this)
      have B1d : Below w2.heap.size w2 w2.drew := below_drew _
      have Hx2d : Hid (w2.drew.ownsRow B 37 1 (.slice Ax' nF cx') nF (F.map (·.1))) := Lib.hid Hx2.out
      have Htb2 : Hid (tb < w2.heap.size) := Lib.hid HR2.out.lt
      have Hnf : Hid (nf ≤ 2) := Lib.hid (by omega)
      have tcd : w2.drew.cell? ⟨tb, 1, none⟩ = some (.slice Ax' nF cx') := tc1
      have Hlf := Lib.hid hlf
      have HBw : Hid (B ≤ w2.heap.size) := Lib.hid (Nat.le_trans H.out.old Hb2.out.size)
      clear hlf
      go_wp2
      go_region_law (first
        | (refine step_append_hasN (by rfl) _ _ _ (by rfl) 3 rint_elem (by omega) Tryz.underlying37 (by rfl) (World.ownsRow_nil w2.drew w2.heap.size 3 1) (by rfl) Hfs.out (intCells_one _) (by have := Hnf.out; simp only [maxLen]; omega) (by have := Hnf.out; omega) (Nat.le_refl _) ?_; intro ov wA oA gA zA; have oA' := own_eqI oA (Nat.zero_add _) (List.nil_append _); obtain ⟨Aq, cq, rfl, -⟩ := own_slice oA'; have bA : Below w2.heap.size w2 wA := Below.then B1d (below_ownN (Below.refl _ _) (World.ownsRow_nil w2.drew w2.heap.size 3 1) gA (Nat.le_refl _)); have tcA := (bA.cell (p := ⟨tb, 1, none⟩) Htb2.out).trans tc1; have bL : Below wA.heap.size wA (wA.alloc (.cells #[.slice Aq nf cq] 37)) := below_alloc _ _; have tcL := (bL.cell (p := ⟨tb, 1, none⟩) (Nat.lt_of_lt_of_le Htb2.out bA.size)).trans tcA)
        | (refine step_append_hasN (by rfl) _ _ _ (by rfl) 37 slint_elem (by omega) Tryz.underlying45 (by rfl) (own_belowN Hx2.out (bA.trans (bL.mono bA.size))) (by rfl) (Has.lit wA #[.slice Aq nf cq] _) (one_slice _ _ _) (by simp only [maxLen]; omega) (by omega) (by have h1 := HBw.out; have h2 := bA.size; have h3 := bL.size; omega) ?_; intro xv' wB oB gB zB; obtain ⟨Ay, cy, rfl, -⟩ := own_slice oB; have bxB := (HR2.out.box.below (bA.trans (bL.mono bA.size)) Htb2.out).grown (by rw [← Hxe.out] at gB; exact gB) (fun e => by obtain ⟨cur, hc⟩ := own_type HR2.out.xrow e.symm; have hb := HR2.out.box; unfold Box at hb; rw [hb] at hc; injection hc with hc; injection hc with _ hc; exact absurd hc (by decide)); have cB := bxB.cell 1; have fB := bxB.frozen 1))
      all_goals
        obtain ⟨W5, hW5⟩ : ∃ W, wB.setCell ⟨tb, 1, none⟩ (.slice Ay (nF + 1) cy) = W := ⟨_, rfl⟩
        have hd := refDecl_end (ov := .slice Aq nf cq) (fs := fs) HR2.out bA (by rw [Hlf.out]; exact oA') bL (by rw [Hxe.out]; exact gB) (by rw [HnF.out]; exact oB) ⟨hf2, hfi⟩ (by rw [HnF.out]; omega) hW5
        have HD := Lib.hid hd.1
        have HK := Lib.hid hd.2
        have tc5 := hd.1.cells.2.1
        have hbx5 : Box W5 (w.heap.size + 1) 35 _ := hd.2.keep _ _ Hbx2.out (fun cur t fz e => by injection e with _ e _; subst e; exact ⟨by decide, by decide⟩)
        clear hd bA oA' bL oB gB zB tcA tcL bxB cB fB oA gA zA
        obtain ⟨r0, r1, r2, r3, r4, k0, k1, k2, k3, k4⟩ := box5 hbx5
        obtain ⟨W3, hW3⟩ : ∃ W3, ((((W5.setCell ⟨w.heap.size + 1, 0, none⟩ (.int .i64 0)).setCell ⟨w.heap.size + 1, 1, none⟩ (.bool false)).setCell ⟨w.heap.size + 1, 2, none⟩ (.slice none 0 0)).setCell ⟨w.heap.size + 1, 3, none⟩ (.slice none 0 0)).setCell ⟨w.heap.size + 1, 4, none⟩ (.int .i64 ((nF : Int) + 1)) = W3 := ⟨_, rfl⟩
        obtain ⟨p0, p1, p2, p3, p4, -⟩ := box5 (box5_store hbx5 hW3)
        have hdecl : declR fs (F.map (·.2)) = (⟨0, false, [], [], (nF : Int) + 1⟩, F.map (·.2) ++ [fs]) := by
          unfold declR
          rw [List.length_map, HnF.out, if_neg (by omega)]
        have hend := clash_end (a := ⟨0, false, [], [], (nF : Int) + 1⟩) (a' := ⟨0, false, [], [], (nF : Int) + 1⟩) Hb2.out (Nat.le_succ _) H.out.old HK.out HD.out hbx5 (World.ownsRow_nil _ _ _ _) (RowsIs.nil _ _) hW3 rfl rfl
        have Hend : Hid (AnsIs W3 B (replyV 0 false (.slice none 0 0) (.slice none 0 0) ((nF : Int) + 1)) (declR fs (F.map (·.2))).1 ∧ RAbs W3 B tb (mapK (·.2) rs) (declR fs (F.map (·.2))).2 ∧ RKept B w W3) := Lib.hid (by rw [hdecl]; rw [List.map_append] at hend; exact hend)
        clear hend hdecl
        clear hbx5
        go_wp2
        refine bodyPost_ret (v := replyV 0 false (.slice none 0 0) (.slice none 0 0) ((nF : Int) + 1)) ?_ rfl ⟨_, rfl, Hend.out⟩
        simp [results, Tryz.results10, go_sem, replyV, p0, p1, p2, p3, p4]
end
end Go.Proofs.YtknfjajmnlpfjaaGreat

namespace Go.Proofs.YtknfjajmnlpfjaaGreat
open Go.RowKit
open Go.Lib (strCells compareBytes)

section
variable {w : World} {B tb : Nat} {rv xv : Value} {rs : Kv (Value × List TVal)} {F : List (Value × List Int)}
theorem set_mem {α : Type} {l : List α} {k : Nat} {a x : α} (h : x ∈ l.set k a) : x = a ∨ x ∈ l := by
  obtain ⟨i, hi, e⟩ := List.getElem_of_mem h
  rw [List.getElem_set] at e
  by_cases hk : k = i
  · rw [if_pos hk] at e
    exact .inl e.symm
  · rw [if_neg hk] at e
    exact .inr (e ▸ List.getElem_mem _)
/-- an index less -/
theorem refDrop_end {x5 W : World} {g k n c : Nat} (h : RSt w B tb rv xv rs F) (bX : Below w.heap.size w x5) (hn : F.length = n) (o5 : x5.ownsRow w.heap.size 37 1 (.slice (some ⟨g, 0, none⟩) n c) n (F.map (·.1)))
    (hW : (x5.setCell ⟨g, k, none⟩ (.slice none 0 0)).setCell ⟨tb, 1, none⟩ (.slice (some ⟨g, 0, none⟩) n c) = W) : RSt W B tb rv (.slice (some ⟨g, 0, none⟩) n c) rs (F.set k (.slice none 0 0, [])) ∧ RKept B w W := by
  have hgw := (o5.lt g rfl).1
  have hk : ∀ i, i < w.heap.size → i ≠ tb → W.heap[i]? = w.heap[i]? := fun i hi h1 => by
    rw [← hW, Below.heap_setCell _ _ _ _ h1, Below.heap_setCell _ _ _ _ (show i ≠ g by omega), bX.block i hi]
  have hst := o5.stored k (.slice none 0 0)
  have hbx0 : Box (x5.setCell ⟨g, k, none⟩ (.slice none 0 0)) tb 47 #[rv, xv] := (h.box.below bX h.lt).far (show tb ≠ g by have := h.lt; omega) _
  have hbx : Box W tb 47 #[rv, .slice (some ⟨g, 0, none⟩) n c] := hW ▸ hbx0.set_ 1 _
  have hne : ∀ {size m b : Nat} {e : TypeId} {v : Value} {xs : List Value}, e ≠ 47 → w.ownsRow b e size v m xs → W.ownsRow b e size v m xs := fun he ho => own_keep ho fun i hi => hk i (ho.lt i hi).2 fun e => by
    obtain ⟨cur, hc⟩ := own_type ho hi
    have hb := h.box
    unfold Box at hb
    rw [e, hb] at hc
    injection hc with hc; injection hc with _ hc; exact he hc.symm
  have hrow : W.ownsRow w.heap.size 37 1 (.slice (some ⟨g, 0, none⟩) n c) n ((F.map (·.1)).set k (.slice none 0 0)) := own_keep hst.1 fun i hi => by
    rw [← hW]
    refine Below.heap_setCell _ _ _ _ fun e => ?_
    have h1 : i = tb := e
    have h2 := (hst.1.lt i hi).1
    have h3 := h.lt
    omega
  refine ⟨{ tB := h.tB, box := hbx, rows := hne (by decide) h.rows, recs := fun r hr => hne (by decide) (h.recs r hr), rise := h.rise, good := h.good, xrow := ?_, flds := fun x hx => ?_, few := by rw [List.length_set]; exact h.few, ints := fun x hx => ?_ }, ⟨⟨?_, ?_, ?_, ?_, fun i hi => ?_⟩, fun i o hi ho => ?_⟩⟩
  · rw [List.length_set, hn, List.map_set]
    exact own_base hrow h.old
  · rcases set_mem hx with rfl | hx
    · exact World.ownsRow_nil _ _ _ _
    · exact hne (by decide) (h.flds x hx)
  · rcases set_mem hx with rfl | hx
    · simp
    · exact h.ints x hx
  · rw [← hW]; exact bX.os
  · rw [← hW]; exact bX.tape
  · rw [← hW]; exact bX.output
  · rw [← hW]; simp only [World.setCell, Array.size_modify]; exact bX.size
  · have hB := h.old
    exact hk i (by omega) (by have := h.tB; omega)
  · have hil := (Array.getElem?_eq_some_iff.1 hi).1
    rw [hk i hil fun e => ?_]
    · exact hi
    · have hb := h.box
      unfold Box at hb
      rw [e, hb] at hi
      injection hi with hi
      exact (ho _ _ _ hi.symm).1 rfl
set_option maxRecDepth 100000 in
set_option maxHeartbeats 3200000 in
theorem ref_k8n (h : RSt w B tb rv xv rs F) (C : Nat) (hC : C ≤ w.heap.size) (key to : ByteArray) (rc old low high : List TVal) (id lim sp nd : Int) (fs : List Int) (Ar Ao Af Al Ah : Option Addr) (nr cr no co nf cf nl cl nh ch : Nat)
    (ho : OpIs w C (.agg #[.int .i64 8, .string key, .string to, .slice Ar nr cr, .slice Ao no co, .int .i64 id, .slice Af nf cf, .slice Al nl cl, .slice Ah nh ch, .int .i64 lim, .int .i64 sp, .int .i64 nd]) ⟨8, key, to, rc, old, id, fs, low, high, lim, sp, nd⟩) (hz : checkT ⟨8, key, to, rc, old, id, fs, low, high, lim, sp, nd⟩ = 0) (hl : rs.length ≤ 1000) (hid : idxF id (F.map (·.2)) = none) (hidb : InI64 id) :
    Calls Tryz.prog 10 #[.pointer (some ⟨tb, 0, none⟩), .agg #[.int .i64 8, .string key, .string to, .slice Ar nr cr, .slice Ao no co, .int .i64 id, .slice Af nf cf, .slice Al nl cl, .slice Ah nh ch, .int .i64 lim, .int .i64 sp, .int .i64 nd]] w (RefPost B tb (mapK (·.2) rs) (F.map (·.2)) ⟨7, false, [], [], 0⟩ w) := by
  obtain ⟨w00, hw00⟩ : ∃ w00, w.alloc (.cells #[.int .i64 8, .string key, .string to, .slice Ar nr cr, .slice Ao no co, .int .i64 id, .slice Af nf cf, .slice Al nl cl, .slice Ah nh ch, .int .i64 lim, .int .i64 sp, .int .i64 nd] 39) = w00 := ⟨_, rfl⟩
  have hb00 : Below w.heap.size w w00 := hw00 ▸ below_alloc _ _
  have hbo0 : Box w00 w.heap.size 39 #[.int .i64 8, .string key, .string to, .slice Ar nr cr, .slice Ao no co, .int .i64 id, .slice Af nf cf, .slice Al nl cl, .slice Ah nh ch, .int .i64 lim, .int .i64 sp, .int .i64 nd] := hw00 ▸ Box.made _ _ _
  have hs00 : w00.heap.size = w.heap.size + 1 := by rw [← hw00]; simp
  obtain ⟨w0, hw0⟩ : ∃ w0, w00.alloc (.cells #[.int .i64 0, .bool false, .slice none 0 0, .slice none 0 0, .int .i64 0] 35) = w0 := ⟨_, rfl⟩
  have hb0 : Below w.heap.size w w0 := Below.then hb00 (hw0 ▸ below_alloc _ _)
  have hbx : Box w0 (w.heap.size + 1) 35 #[.int .i64 0, .bool false, .slice none 0 0, .slice none 0 0, .int .i64 0] := hw0 ▸ made_at hs00 _ _
  have hbo : Box w0 w.heap.size 39 #[.int .i64 8, .string key, .string to, .slice Ar nr cr, .slice Ao no co, .int .i64 id, .slice Af nf cf, .slice Al nl cl, .slice Ah nh ch, .int .i64 lim, .int .i64 sp, .int .i64 nd] := hw0 ▸ hbo0.alloc _
  have hsz : w0.heap.size = w.heap.size + 1 + 1 := by rw [← hw0]; simp [hs00]
  have hchk := refCheck_any _ _ C w0 (Nat.le_trans hC hb0.size) (ho.belowOf hb0 hC)
  have e0 := hbo.cell 0; have e1 := hbo.cell 1; have e2 := hbo.cell 2; have e3 := hbo.cell 3; have e4 := hbo.cell 4; have e5 := hbo.cell 5
  have e6 := hbo.cell 6; have e7 := hbo.cell 7; have e8 := hbo.cell 8; have e9 := hbo.cell 9; have e10 := hbo.cell 10; have e11 := hbo.cell 11
  have H := Lib.hid h
  have Hbx := Lib.hid hbx
  have Hbo := Lib.hid hbo
  have Hb0 := Lib.hid hb0
  have Hsz := Lib.hid hsz
  have Hchk := Lib.hid hchk
  clear hbo hbo0 hb00 hb0 hbx hsz hchk h ho
  rw [hz] at Hchk
  go_enter Tryz.func10, Tryz.ntmps10
  go_wp2_with fail
  refine Hchk.out.mono ?_
  rintro e w1 ⟨rfl, hb1⟩
  have hbo1 := Hbo.out.below hb1 Hbo.out.lt
  obtain ⟨a0, a1, a2, a3, a4, a5, a6, a7, a8, a9, a10, a11⟩ := box12R hbo1
  have Hbo1 := Lib.hid hbo1
  have Hb1 := Lib.hid hb1
  have Hbw := Lib.hid (Below.trans Hb0.out (hb1.mono (by rw [Hsz.out]; omega)))
  have Hbx1 := Lib.hid (Hbx.out.below hb1 Hbx.out.lt)
  have Hlt1 : Hid (w.heap.size + 1 < w1.heap.size) := Lib.hid (by have := hb1.size; have := Hsz.out; omega)
  clear hbo1 hb1
  have Hfind := Lib.hid (refFind_any (H.out.below Hbw.out) key hl)
  have hrise := H.out.rise
  obtain ⟨P, hP⟩ : ∃ P, posK key.data.toList rs = P := ⟨_, rfl⟩
  obtain ⟨is, his⟩ : ∃ b, (getK key.data.toList rs).isSome = b := ⟨_, rfl⟩
  have hget := getK_pos key.data.toList rs hrise
  rw [hP, his] at Hfind
  rw [hP] at hget
  have HP := Lib.hid hP
  have HS := Lib.hid his
  have Hget := Lib.hid hget
  have Hl := Lib.hid hl
  have His : Hid (is = (getK key.data.toList (mapK (·.2) rs)).isSome) := Lib.hid (by rw [← his]; exact (isSome_mapK _ _).symm)
  clear hP his hget hrise hl
  go_wp2_with fail
  refine Hfind.out.mono ?_
  rintro e w2 ⟨rfl, m2, h2⟩
  have hbo2 := Hbo1.out.below (below_drews (Below.refl w1.heap.size w1) m2) Hbo1.out.lt
  have hbx2 := Hbx1.out.below (below_drews (Below.refl w1.heap.size w1) m2) Hbx1.out.lt
  rw [← h2] at hbo2 hbx2
  have Hb2 : Hid (Below w.heap.size w w2) := Lib.hid (by rw [h2]; exact below_drews Hbw.out m2)
  have Hlt2 : Hid (w.heap.size + 1 < w2.heap.size) := Lib.hid (by rw [h2]; exact Hlt1.out)
  have HR2 : Hid (RSt w2 B tb rv xv rs F) := Lib.hid (H.out.below Hb2.out)
  have Hbx2 := Lib.hid hbx2
  have Hbo2 := Lib.hid hbo2
  have Htb := Lib.hid H.out.lt
  clear h2 a0 a1 a2 a3 a4 a5 a6 a7 a8 a9 a10 a11
  obtain ⟨a0, a1, a2, a3, a4, a5, a6, a7, a8, a9, a10, a11⟩ := box12R hbo2
  obtain ⟨tc0, tc1, -, -⟩ := HR2.out.cells
  have hrw := HR2.out.rows
  obtain ⟨Aw, N, cw, hre, hwl⟩ : ∃ Aw N cw, rv = .slice Aw N cw ∧ rs.length = N := by
    obtain ⟨A', c', e, -⟩ := own_sliceN hrw
    exact ⟨A', _, c', e, rfl⟩
  rw [hre] at tc0
  clear hbo2 hbx2
  cases is with
  | true =>
    obtain ⟨x, hx, hxk⟩ : ∃ x, rs[P]? = some x ∧ getK key.data.toList rs = some x.2 := by
      have h1 := Hget.out
      have h2 := HS.out
      rw [h1] at h2
      cases hp : rs[P]? with
      | none => rw [hp] at h2; cases h2
      | some x =>
        rw [hp] at h1 h2
        refine ⟨x, rfl, ?_⟩
        simp only [Option.bind_some] at h1 h2
        by_cases e : x.1 = key.data.toList
        · rw [if_pos e] at h1
          exact h1
        · rw [if_neg e] at h2
          cases h2
    have hPN : P < N := by rw [← hwl]; exact (List.getElem?_eq_some_iff.1 hx).1
    have hrw' := hrw
    rw [hre, hwl] at hrw'
    obtain ⟨aw, rfl, hcw⟩ := row_cellR hrw' hPN hx
    have hxo := HR2.out.recs x (List.mem_of_getElem? hx)
    obtain ⟨Ax, cx, ex, -⟩ := own_sliceN hxo
    obtain ⟨zx, hzx⟩ : ∃ z, x.2.2.length = z := ⟨_, rfl⟩
    rw [hzx] at ex
    rw [ex] at hcw
    have Hxo : Hid (w2.ownsRow B 53 3 (.slice Ax zx cx) x.2.2.length (valCells x.2.2)) := Lib.hid (by rw [← ex]; exact hxo)
    have Hzx := Lib.hid hzx
    have Hxk : Hid ((getK key.data.toList (mapK (·.2) rs)).getD [] = x.2.2) := Lib.hid (by rw [mapK_get, hxk]; rfl)
    have p0 : (0 : Int) ≤ (P : Int) := by omega
    have p1 : (P : Int) < (N : Int) := by omega
    clear hx hxk hxo ex hrw' hzx
    have Hix := Lib.hid (refIndex_none HR2.out id hid hidb)
    go_wp2_with fail
    refine Hix.out.mono ?_
    rintro e w3 ⟨rfl, hb3⟩
    have hbi := hb3
    obtain ⟨z3, hz3⟩ : ∃ y, w3.alloc (.cells #[.int .i64 0, .slice none 0 0] 74) = y := ⟨_, rfl⟩
    have hbz : Below w3.heap.size w3 z3 := hz3 ▸ below_alloc _ _
    have hbxz : Box z3 w3.heap.size 74 #[.int .i64 0, .slice none 0 0] := hz3 ▸ Box.made _ _ _
    have zc0 := hbxz.cell 0
    have zc1 := hbxz.cell 1
    have zf0 := hbxz.frozen 0
    have zf1 := hbxz.frozen 1
    obtain ⟨y3, hy3⟩ : ∃ y, (z3.setCell ⟨w3.heap.size, 0, none⟩ (.int .i64 0)).setCell ⟨w3.heap.size, 1, none⟩ (.slice none 0 0) = y := ⟨_, rfl⟩
    have hby : Below w3.heap.size w3 y3 := hy3 ▸ (hbz.setCell (Nat.le_refl _) _).setCell (Nat.le_refl _) _
    have Hby : Hid (Below w2.heap.size w2 y3) := Lib.hid (hb3.trans (hby.mono hb3.size))
    have HRy := Lib.hid (HR2.out.below Hby.out)
    have Hbw2 : Hid (Below w.heap.size w y3) := Lib.hid (Hb2.out.trans (Hby.out.mono Hb2.out.size))
    have HXy := Lib.hid (Hbx2.out.below Hby.out Hlt2.out)
    have hOy := Hbo2.out.below Hby.out Hbo2.out.lt
    have HOy := Lib.hid hOy
    clear hb3 hby hbi hbz hbxz a0 a1 a2 a3 a4 a5 a6 a7 a8 a9 a10 a11
    obtain ⟨a0, a1, a2, a3, a4, a5, a6, a7, a8, a9, a10, a11⟩ := box12R hOy
    clear hOy
    have hbx5 := HXy.out
    obtain ⟨r0, r1, r2, r3, r4, k0, k1, k2, k3, k4⟩ := box5 hbx5
    obtain ⟨W3, hW3⟩ : ∃ W3, ((((y3.setCell ⟨w.heap.size + 1, 0, none⟩ (.int .i64 7)).setCell ⟨w.heap.size + 1, 1, none⟩ (.bool false)).setCell ⟨w.heap.size + 1, 2, none⟩ (.slice none 0 0)).setCell ⟨w.heap.size + 1, 3, none⟩ (.slice none 0 0)).setCell ⟨w.heap.size + 1, 4, none⟩ (.int .i64 0) = W3 := ⟨_, rfl⟩
    obtain ⟨p0, p1, p2, p3, p4, -⟩ := box5 (box5_store hbx5 hW3)
    have Hend := Lib.hid (clash_end (a := ⟨7, false, [], [], 0⟩) (a' := ⟨7, false, [], [], 0⟩) Hbw2.out (Nat.le_succ _) H.out.old (RKept.refl _ _) HRy.out hbx5 (World.ownsRow_nil _ _ _ _) (RowsIs.nil _ _) hW3 rfl rfl)
    clear hbx5
    go_wp2
    refine bodyPost_ret (v := replyV 7 false (.slice none 0 0) (.slice none 0 0) 0) ?_ rfl ⟨_, rfl, Hend.out⟩
    simp [results, Tryz.results10, go_sem, replyV, p0, p1, p2, p3, p4]
  | false =>
    have Hxk : Hid ((getK key.data.toList (mapK (·.2) rs)).getD [] = []) := Lib.hid (by
      have h1 := His.out
      cases e : getK key.data.toList (mapK (·.2) rs) with
      | none => rfl
      | some x => rw [e] at h1; cases h1)
    have Hix := Lib.hid (refIndex_none HR2.out id hid hidb)
    go_wp2_with fail
    refine Hix.out.mono ?_
    rintro e w3 ⟨rfl, hb3⟩
    have hbi := hb3
    obtain ⟨z3, hz3⟩ : ∃ y, w3.alloc (.cells #[.int .i64 0, .slice none 0 0] 74) = y := ⟨_, rfl⟩
    have hbz : Below w3.heap.size w3 z3 := hz3 ▸ below_alloc _ _
    have hbxz : Box z3 w3.heap.size 74 #[.int .i64 0, .slice none 0 0] := hz3 ▸ Box.made _ _ _
    have zc0 := hbxz.cell 0
    have zc1 := hbxz.cell 1
    have zf0 := hbxz.frozen 0
    have zf1 := hbxz.frozen 1
    obtain ⟨y3, hy3⟩ : ∃ y, (z3.setCell ⟨w3.heap.size, 0, none⟩ (.int .i64 0)).setCell ⟨w3.heap.size, 1, none⟩ (.slice none 0 0) = y := ⟨_, rfl⟩
    have hby : Below w3.heap.size w3 y3 := hy3 ▸ (hbz.setCell (Nat.le_refl _) _).setCell (Nat.le_refl _) _
    have Hby : Hid (Below w2.heap.size w2 y3) := Lib.hid (hb3.trans (hby.mono hb3.size))
    have HRy := Lib.hid (HR2.out.below Hby.out)
    have Hbw2 : Hid (Below w.heap.size w y3) := Lib.hid (Hb2.out.trans (Hby.out.mono Hb2.out.size))
    have HXy := Lib.hid (Hbx2.out.below Hby.out Hlt2.out)
    have hOy := Hbo2.out.below Hby.out Hbo2.out.lt
    have HOy := Lib.hid hOy
    clear hb3 hby hbi hbz hbxz a0 a1 a2 a3 a4 a5 a6 a7 a8 a9 a10 a11
    obtain ⟨a0, a1, a2, a3, a4, a5, a6, a7, a8, a9, a10, a11⟩ := box12R hOy
    clear hOy
    have hbx5 := HXy.out
    obtain ⟨r0, r1, r2, r3, r4, k0, k1, k2, k3, k4⟩ := box5 hbx5
    obtain ⟨W3, hW3⟩ : ∃ W3, ((((y3.setCell ⟨w.heap.size + 1, 0, none⟩ (.int .i64 7)).setCell ⟨w.heap.size + 1, 1, none⟩ (.bool false)).setCell ⟨w.heap.size + 1, 2, none⟩ (.slice none 0 0)).setCell ⟨w.heap.size + 1, 3, none⟩ (.slice none 0 0)).setCell ⟨w.heap.size + 1, 4, none⟩ (.int .i64 0) = W3 := ⟨_, rfl⟩
    obtain ⟨p0, p1, p2, p3, p4, -⟩ := box5 (box5_store hbx5 hW3)
    have Hend := Lib.hid (clash_end (a := ⟨7, false, [], [], 0⟩) (a' := ⟨7, false, [], [], 0⟩) Hbw2.out (Nat.le_succ _) H.out.old (RKept.refl _ _) HRy.out hbx5 (World.ownsRow_nil _ _ _ _) (RowsIs.nil _ _) hW3 rfl rfl)
    clear hbx5
    go_wp2
    refine bodyPost_ret (v := replyV 7 false (.slice none 0 0) (.slice none 0 0) 0) ?_ rfl ⟨_, rfl, Hend.out⟩
    simp [results, Tryz.results10, go_sem, replyV, p0, p1, p2, p3, p4]
set_option maxRecDepth 100000 in
set_option maxHeartbeats 3200000 in
theorem ref_k8s (h : RSt w B tb rv xv rs F) (k : Nat) (C : Nat) (hC : C ≤ w.heap.size) (key to : ByteArray) (rc old low high : List TVal) (lim sp nd : Int) (fs : List Int) (Ar Ao Af Al Ah : Option Addr) (nr cr no co nf cf nl cl nh ch : Nat)
    (ho : OpIs w C (.agg #[.int .i64 8, .string key, .string to, .slice Ar nr cr, .slice Ao no co, .int .i64 ((k : Int) + 1), .slice Af nf cf, .slice Al nl cl, .slice Ah nh ch, .int .i64 lim, .int .i64 sp, .int .i64 nd]) ⟨8, key, to, rc, old, (k : Int) + 1, fs, low, high, lim, sp, nd⟩) (hz : checkT ⟨8, key, to, rc, old, (k : Int) + 1, fs, low, high, lim, sp, nd⟩ = 0) (hl : rs.length ≤ 1000) (x1 : Value × List Int) (hx1 : F[k]? = some x1) (hx0 : x1.2 ≠ []) :
    Calls Tryz.prog 10 #[.pointer (some ⟨tb, 0, none⟩), .agg #[.int .i64 8, .string key, .string to, .slice Ar nr cr, .slice Ao no co, .int .i64 ((k : Int) + 1), .slice Af nf cf, .slice Al nl cl, .slice Ah nh ch, .int .i64 lim, .int .i64 sp, .int .i64 nd]] w (RefPost B tb (mapK (·.2) rs) ((F.map (·.2)).set k []) ⟨0, false, [], [], 0⟩ w) := by
  obtain ⟨w00, hw00⟩ : ∃ w00, w.alloc (.cells #[.int .i64 8, .string key, .string to, .slice Ar nr cr, .slice Ao no co, .int .i64 ((k : Int) + 1), .slice Af nf cf, .slice Al nl cl, .slice Ah nh ch, .int .i64 lim, .int .i64 sp, .int .i64 nd] 39) = w00 := ⟨_, rfl⟩
  have hb00 : Below w.heap.size w w00 := hw00 ▸ below_alloc _ _
  have hbo0 : Box w00 w.heap.size 39 #[.int .i64 8, .string key, .string to, .slice Ar nr cr, .slice Ao no co, .int .i64 ((k : Int) + 1), .slice Af nf cf, .slice Al nl cl, .slice Ah nh ch, .int .i64 lim, .int .i64 sp, .int .i64 nd] := hw00 ▸ Box.made _ _ _
  have hs00 : w00.heap.size = w.heap.size + 1 := by rw [← hw00]; simp
  obtain ⟨w0, hw0⟩ : ∃ w0, w00.alloc (.cells #[.int .i64 0, .bool false, .slice none 0 0, .slice none 0 0, .int .i64 0] 35) = w0 := ⟨_, rfl⟩
  have hb0 : Below w.heap.size w w0 := Below.then hb00 (hw0 ▸ below_alloc _ _)
  have hbx : Box w0 (w.heap.size + 1) 35 #[.int .i64 0, .bool false, .slice none 0 0, .slice none 0 0, .int .i64 0] := hw0 ▸ made_at hs00 _ _
  have hbo : Box w0 w.heap.size 39 #[.int .i64 8, .string key, .string to, .slice Ar nr cr, .slice Ao no co, .int .i64 ((k : Int) + 1), .slice Af nf cf, .slice Al nl cl, .slice Ah nh ch, .int .i64 lim, .int .i64 sp, .int .i64 nd] := hw0 ▸ hbo0.alloc _
  have hsz : w0.heap.size = w.heap.size + 1 + 1 := by rw [← hw0]; simp [hs00]
  have hchk := refCheck_any _ _ C w0 (Nat.le_trans hC hb0.size) (ho.belowOf hb0 hC)
  have e0 := hbo.cell 0; have e1 := hbo.cell 1; have e2 := hbo.cell 2; have e3 := hbo.cell 3; have e4 := hbo.cell 4; have e5 := hbo.cell 5
  have e6 := hbo.cell 6; have e7 := hbo.cell 7; have e8 := hbo.cell 8; have e9 := hbo.cell 9; have e10 := hbo.cell 10; have e11 := hbo.cell 11
  have H := Lib.hid h
  have Hbx := Lib.hid hbx
  have Hbo := Lib.hid hbo
  have Hb0 := Lib.hid hb0
  have Hsz := Lib.hid hsz
  have Hchk := Lib.hid hchk
  clear hbo hbo0 hb00 hb0 hbx hsz hchk h ho
  rw [hz] at Hchk
  go_enter Tryz.func10, Tryz.ntmps10
  go_wp2_with fail
  refine Hchk.out.mono ?_
  rintro e w1 ⟨rfl, hb1⟩
  have hbo1 := Hbo.out.below hb1 Hbo.out.lt
  obtain ⟨a0, a1, a2, a3, a4, a5, a6, a7, a8, a9, a10, a11⟩ := box12R hbo1
  have Hbo1 := Lib.hid hbo1
  have Hb1 := Lib.hid hb1
  have Hbw := Lib.hid (Below.trans Hb0.out (hb1.mono (by rw [Hsz.out]; omega)))
  have Hbx1 := Lib.hid (Hbx.out.below hb1 Hbx.out.lt)
  have Hlt1 : Hid (w.heap.size + 1 < w1.heap.size) := Lib.hid (by have := hb1.size; have := Hsz.out; omega)
  clear hbo1 hb1
  have Hfind := Lib.hid (refFind_any (H.out.below Hbw.out) key hl)
  have hrise := H.out.rise
  obtain ⟨P, hP⟩ : ∃ P, posK key.data.toList rs = P := ⟨_, rfl⟩
  obtain ⟨is, his⟩ : ∃ b, (getK key.data.toList rs).isSome = b := ⟨_, rfl⟩
  have hget := getK_pos key.data.toList rs hrise
  rw [hP, his] at Hfind
  rw [hP] at hget
  have HP := Lib.hid hP
  have HS := Lib.hid his
  have Hget := Lib.hid hget
  have Hl := Lib.hid hl
  have His : Hid (is = (getK key.data.toList (mapK (·.2) rs)).isSome) := Lib.hid (by rw [← his]; exact (isSome_mapK _ _).symm)
  clear hP his hget hrise hl
  go_wp2_with fail
  refine Hfind.out.mono ?_
  rintro e w2 ⟨rfl, m2, h2⟩
  have hbo2 := Hbo1.out.below (below_drews (Below.refl w1.heap.size w1) m2) Hbo1.out.lt
  have hbx2 := Hbx1.out.below (below_drews (Below.refl w1.heap.size w1) m2) Hbx1.out.lt
  rw [← h2] at hbo2 hbx2
  have Hb2 : Hid (Below w.heap.size w w2) := Lib.hid (by rw [h2]; exact below_drews Hbw.out m2)
  have Hlt2 : Hid (w.heap.size + 1 < w2.heap.size) := Lib.hid (by rw [h2]; exact Hlt1.out)
  have HR2 : Hid (RSt w2 B tb rv xv rs F) := Lib.hid (H.out.below Hb2.out)
  have Hbx2 := Lib.hid hbx2
  have Hbo2 := Lib.hid hbo2
  have Htb := Lib.hid H.out.lt
  clear h2 a0 a1 a2 a3 a4 a5 a6 a7 a8 a9 a10 a11
  obtain ⟨a0, a1, a2, a3, a4, a5, a6, a7, a8, a9, a10, a11⟩ := box12R hbo2
  obtain ⟨tc0, tc1, -, -⟩ := HR2.out.cells
  have hrw := HR2.out.rows
  obtain ⟨Aw, N, cw, hre, hwl⟩ : ∃ Aw N cw, rv = .slice Aw N cw ∧ rs.length = N := by
    obtain ⟨A', c', e, -⟩ := own_sliceN hrw
    exact ⟨A', _, c', e, rfl⟩
  rw [hre] at tc0
  clear hbo2 hbx2
  cases is with
  | true =>
    obtain ⟨x, hx, hxk⟩ : ∃ x, rs[P]? = some x ∧ getK key.data.toList rs = some x.2 := by
      have h1 := Hget.out
      have h2 := HS.out
      rw [h1] at h2
      cases hp : rs[P]? with
      | none => rw [hp] at h2; cases h2
      | some x =>
        rw [hp] at h1 h2
        refine ⟨x, rfl, ?_⟩
        simp only [Option.bind_some] at h1 h2
        by_cases e : x.1 = key.data.toList
        · rw [if_pos e] at h1
          exact h1
        · rw [if_neg e] at h2
          cases h2
    have hPN : P < N := by rw [← hwl]; exact (List.getElem?_eq_some_iff.1 hx).1
    have hrw' := hrw
    rw [hre, hwl] at hrw'
    obtain ⟨aw, rfl, hcw⟩ := row_cellR hrw' hPN hx
    have hxo := HR2.out.recs x (List.mem_of_getElem? hx)
    obtain ⟨Ax, cx, ex, -⟩ := own_sliceN hxo
    obtain ⟨zx, hzx⟩ : ∃ z, x.2.2.length = z := ⟨_, rfl⟩
    rw [hzx] at ex
    rw [ex] at hcw
    have Hxo : Hid (w2.ownsRow B 53 3 (.slice Ax zx cx) x.2.2.length (valCells x.2.2)) := Lib.hid (by rw [← ex]; exact hxo)
    have Hzx := Lib.hid hzx
    have Hxk : Hid ((getK key.data.toList (mapK (·.2) rs)).getD [] = x.2.2) := Lib.hid (by rw [mapK_get, hxk]; rfl)
    have p0 : (0 : Int) ≤ (P : Int) := by omega
    have p1 : (P : Int) < (N : Int) := by omega
    clear hx hxk hxo ex hrw' hzx
    have Hix := Lib.hid (refIndex_some HR2.out k x1 hx1 hx0)
    have hxf := HR2.out.flds x1 (List.mem_of_getElem? hx1)
    obtain ⟨Ag, cg, eg, -⟩ := own_slice hxf
    obtain ⟨zg, hzg⟩ : ∃ z, x1.2.length = z := ⟨_, rfl⟩
    rw [hzg] at eg
    rw [eg] at Hix
    clear hxf eg hzg
    go_wp2_with fail
    refine Hix.out.mono ?_
    rintro e w3 ⟨rfl, hb3⟩
    have hbi := hb3
    obtain ⟨z3, hz3⟩ : ∃ y, w3.alloc (.cells #[.int .i64 0, .slice none 0 0] 74) = y := ⟨_, rfl⟩
    have hbz : Below w3.heap.size w3 z3 := hz3 ▸ below_alloc _ _
    have hbxz : Box z3 w3.heap.size 74 #[.int .i64 0, .slice none 0 0] := hz3 ▸ Box.made _ _ _
    have zc0 := hbxz.cell 0
    have zc1 := hbxz.cell 1
    have zf0 := hbxz.frozen 0
    have zf1 := hbxz.frozen 1
    obtain ⟨y3, hy3⟩ : ∃ y, (z3.setCell ⟨w3.heap.size, 0, none⟩ (.int .i64 ((k : Int) + 1))).setCell ⟨w3.heap.size, 1, none⟩ (.slice Ag zg cg) = y := ⟨_, rfl⟩
    have hby : Below w3.heap.size w3 y3 := hy3 ▸ (hbz.setCell (Nat.le_refl _) _).setCell (Nat.le_refl _) _
    have Hby : Hid (Below w2.heap.size w2 y3) := Lib.hid (hb3.trans (hby.mono hb3.size))
    have HRy := Lib.hid (HR2.out.below Hby.out)
    have Hbw2 : Hid (Below w.heap.size w y3) := Lib.hid (Hb2.out.trans (Hby.out.mono Hb2.out.size))
    have HXy := Lib.hid (Hbx2.out.below Hby.out Hlt2.out)
    have hOy := Hbo2.out.below Hby.out Hbo2.out.lt
    have HOy := Lib.hid hOy
    clear hb3 hby hbi hbz hbxz a0 a1 a2 a3 a4 a5 a6 a7 a8 a9 a10 a11
    obtain ⟨a0, a1, a2, a3, a4, a5, a6, a7, a8, a9, a10, a11⟩ := box12R hOy
    clear hOy
    have hxr := HRy.out.xrow
    obtain ⟨nF, hnF⟩ : ∃ n, F.length = n := ⟨_, rfl⟩
    rw [hnF] at hxr
    have hkn : k < nF := by rw [← hnF]; exact (List.getElem?_eq_some_iff.1 hx1).1
    obtain ⟨Ax', cx', hxe, hxl, hxc, hxh⟩ := own_slice hxr
    have HnF := Lib.hid hnF
    have Hxh : Hid (Has y3 y3.heap.size Ax' (nF * 1) (F.map (·.1))) := Lib.hid (by rw [Nat.mul_one]; exact hxh)
    have Hone : Hid (∀ u ∈ F.map (·.1), u.oneCell' = true) := Lib.hid (fun u hu => by
      obtain ⟨q, hq, rfl⟩ := List.mem_map.1 hu
      obtain ⟨A', c', e', -⟩ := own_slice (HRy.out.flds q hq)
      rw [e']
      rfl)
    have hn6 : nF ≤ 6 := by rw [← hnF]; exact HRy.out.few
    have ty1 := HRy.out.cells.2.1
    rw [hxe] at ty1
    have Htby : Hid (tb < y3.heap.size) := Lib.hid HRy.out.lt
    have k0 : (0 : Int) ≤ (k : Int) := by omega
    have k1 : (k : Int) < (nF : Int) := by omega
    have ks : (k : Int) + 1 - 1 = (k : Int) := by omega
    clear hxr hnF hxh hxe hxl hxc tc0 tc1
    go_wp2_with (at_builtin; refine wpList_append_hasN rfl (.tmp 226) (.tmp 230) _ rfl 37 slint_elem (by omega) Tryz.underlying45 rfl (World.ownsRow_nil y3 y3.heap.size 37 1) rfl Hxh.out Hone.out (by simp only [maxLen]; omega) (by omega) (Nat.le_refl _) ?_; intro v5 x5 ho5 hg5 hz5; have bX : Hid (Below y3.heap.size y3 x5) := Lib.hid (below_ownN (Below.refl _ _) (World.ownsRow_nil y3 y3.heap.size 37 1) hg5 (Nat.le_refl _)); have ho5' : x5.ownsRow y3.heap.size 37 1 v5 nF (F.map (·.1)) := (by have e := ho5; rw [Nat.zero_add, List.nil_append] at e; exact e); obtain ⟨A5, c5, rfl, -⟩ := own_slice ho5'; obtain ⟨g5, rfl, hg5B⟩ := own_at ho5' (by omega); have O5 := Lib.hid ho5'; have hc5 : ∃ u, x5.cell? ⟨g5, k, none⟩ = some u := (by rw [ho5'.cellAt k (by omega)]; exact ⟨_, List.getElem?_eq_getElem (by rw [List.length_map, HnF.out]; exact hkn)⟩); obtain ⟨u5, hc5⟩ := hc5; have hf5 := ho5'.frozenAt k; have bxt := ((HRy.out.box.below bX.out Htby.out).far (show tb ≠ g5 by have := Htby.out; omega) (.slice none 0 0) : Box (x5.setCell ⟨g5, k, none⟩ (.slice none 0 0)) tb _ _); have ct := bxt.cell 1; have ft := bxt.frozen 1; have o0 := HOy.out.below bX.out HOy.out.lt; have o5 := o0.cell 5; obtain ⟨W5, hW5⟩ : ∃ W, (x5.setCell ⟨g5, k, none⟩ (.slice none 0 0)).setCell ⟨tb, 1, none⟩ (.slice (some ⟨g5, 0, none⟩) nF c5) = W := ⟨_, rfl⟩; have hd := refDrop_end HRy.out bX.out HnF.out O5.out hW5; have HD := Lib.hid hd.1; have HK := Lib.hid hd.2; have hbx5 : Box W5 (w.heap.size + 1) 35 _ := hd.2.keep _ _ HXy.out (fun cur t fz e => by injection e with _ e _; subst e; exact ⟨by decide, by decide⟩); clear hd; obtain ⟨r0, r1, r2, r3, r4, k0, k1, k2, k3, k4⟩ := box5 hbx5; obtain ⟨W3, hW3⟩ : ∃ W3, ((((W5.setCell ⟨w.heap.size + 1, 0, none⟩ (.int .i64 0)).setCell ⟨w.heap.size + 1, 1, none⟩ (.bool false)).setCell ⟨w.heap.size + 1, 2, none⟩ (.slice none 0 0)).setCell ⟨w.heap.size + 1, 3, none⟩ (.slice none 0 0)).setCell ⟨w.heap.size + 1, 4, none⟩ (.int .i64 0) = W3 := ⟨_, rfl⟩; obtain ⟨p0, p1, p2, p3, p4, -⟩ := box5 (box5_store hbx5 hW3); have hend := clash_end (a := ⟨0, false, [], [], 0⟩) (a' := ⟨0, false, [], [], 0⟩) Hbw2.out (Nat.le_succ _) H.out.old HK.out HD.out hbx5 (World.ownsRow_nil _ _ _ _) (RowsIs.nil _ _) hW3 rfl rfl; rw [List.map_set] at hend; have Hend := Lib.hid hend; clear hend; clear hbx5; clear ho5 hg5 hz5 ho5' o0)
    refine bodyPost_ret (v := replyV 0 false (.slice none 0 0) (.slice none 0 0) 0) ?_ rfl ⟨_, rfl, Hend.out⟩
    simp [results, Tryz.results10, go_sem, replyV, p0, p1, p2, p3, p4]
  | false =>
    have Hxk : Hid ((getK key.data.toList (mapK (·.2) rs)).getD [] = []) := Lib.hid (by
      have h1 := His.out
      cases e : getK key.data.toList (mapK (·.2) rs) with
      | none => rfl
      | some x => rw [e] at h1; cases h1)
    have Hix := Lib.hid (refIndex_some HR2.out k x1 hx1 hx0)
    have hxf := HR2.out.flds x1 (List.mem_of_getElem? hx1)
    obtain ⟨Ag, cg, eg, -⟩ := own_slice hxf
    obtain ⟨zg, hzg⟩ : ∃ z, x1.2.length = z := ⟨_, rfl⟩
    rw [hzg] at eg
    rw [eg] at Hix
    clear hxf eg hzg
    go_wp2_with fail
    refine Hix.out.mono ?_
    rintro e w3 ⟨rfl, hb3⟩
    have hbi := hb3
    obtain ⟨z3, hz3⟩ : ∃ y, w3.alloc (.cells #[.int .i64 0, .slice none 0 0] 74) = y := ⟨_, rfl⟩
    have hbz : Below w3.heap.size w3 z3 := hz3 ▸ below_alloc _ _
    have hbxz : Box z3 w3.heap.size 74 #[.int .i64 0, .slice none 0 0] := hz3 ▸ Box.made _ _ _
    have zc0 := hbxz.cell 0
    have zc1 := hbxz.cell 1
    have zf0 := hbxz.frozen 0
    have zf1 := hbxz.frozen 1
    obtain ⟨y3, hy3⟩ : ∃ y, (z3.setCell ⟨w3.heap.size, 0, none⟩ (.int .i64 ((k : Int) + 1))).setCell ⟨w3.heap.size, 1, none⟩ (.slice Ag zg cg) = y := ⟨_, rfl⟩
    have hby : Below w3.heap.size w3 y3 := hy3 ▸ (hbz.setCell (Nat.le_refl _) _).setCell (Nat.le_refl _) _
    have Hby : Hid (Below w2.heap.size w2 y3) := Lib.hid (hb3.trans (hby.mono hb3.size))
    have HRy := Lib.hid (HR2.out.below Hby.out)
    have Hbw2 : Hid (Below w.heap.size w y3) := Lib.hid (Hb2.out.trans (Hby.out.mono Hb2.out.size))
    have HXy := Lib.hid (Hbx2.out.below Hby.out Hlt2.out)
    have hOy := Hbo2.out.below Hby.out Hbo2.out.lt
    have HOy := Lib.hid hOy
    clear hb3 hby hbi hbz hbxz a0 a1 a2 a3 a4 a5 a6 a7 a8 a9 a10 a11
    obtain ⟨a0, a1, a2, a3, a4, a5, a6, a7, a8, a9, a10, a11⟩ := box12R hOy
    clear hOy
    have hxr := HRy.out.xrow
    obtain ⟨nF, hnF⟩ : ∃ n, F.length = n := ⟨_, rfl⟩
    rw [hnF] at hxr
    have hkn : k < nF := by rw [← hnF]; exact (List.getElem?_eq_some_iff.1 hx1).1
    obtain ⟨Ax', cx', hxe, hxl, hxc, hxh⟩ := own_slice hxr
    have HnF := Lib.hid hnF
    have Hxh : Hid (Has y3 y3.heap.size Ax' (nF * 1) (F.map (·.1))) := Lib.hid (by rw [Nat.mul_one]; exact hxh)
    have Hone : Hid (∀ u ∈ F.map (·.1), u.oneCell' = true) := Lib.hid (fun u hu => by
      obtain ⟨q, hq, rfl⟩ := List.mem_map.1 hu
      obtain ⟨A', c', e', -⟩ := own_slice (HRy.out.flds q hq)
      rw [e']
      rfl)
    have hn6 : nF ≤ 6 := by rw [← hnF]; exact HRy.out.few
    have ty1 := HRy.out.cells.2.1
    rw [hxe] at ty1
    have Htby : Hid (tb < y3.heap.size) := Lib.hid HRy.out.lt
    have k0 : (0 : Int) ≤ (k : Int) := by omega
    have k1 : (k : Int) < (nF : Int) := by omega
    have ks : (k : Int) + 1 - 1 = (k : Int) := by omega
    clear hxr hnF hxh hxe hxl hxc tc0 tc1
    go_wp2_with (at_builtin; refine wpList_append_hasN rfl (.tmp 226) (.tmp 230) _ rfl 37 slint_elem (by omega) Tryz.underlying45 rfl (World.ownsRow_nil y3 y3.heap.size 37 1) rfl Hxh.out Hone.out (by simp only [maxLen]; omega) (by omega) (Nat.le_refl _) ?_; intro v5 x5 ho5 hg5 hz5; have bX : Hid (Below y3.heap.size y3 x5) := Lib.hid (below_ownN (Below.refl _ _) (World.ownsRow_nil y3 y3.heap.size 37 1) hg5 (Nat.le_refl _)); have ho5' : x5.ownsRow y3.heap.size 37 1 v5 nF (F.map (·.1)) := (by have e := ho5; rw [Nat.zero_add, List.nil_append] at e; exact e); obtain ⟨A5, c5, rfl, -⟩ := own_slice ho5'; obtain ⟨g5, rfl, hg5B⟩ := own_at ho5' (by omega); have O5 := Lib.hid ho5'; have hc5 : ∃ u, x5.cell? ⟨g5, k, none⟩ = some u := (by rw [ho5'.cellAt k (by omega)]; exact ⟨_, List.getElem?_eq_getElem (by rw [List.length_map, HnF.out]; exact hkn)⟩); obtain ⟨u5, hc5⟩ := hc5; have hf5 := ho5'.frozenAt k; have bxt := ((HRy.out.box.below bX.out Htby.out).far (show tb ≠ g5 by have := Htby.out; omega) (.slice none 0 0) : Box (x5.setCell ⟨g5, k, none⟩ (.slice none 0 0)) tb _ _); have ct := bxt.cell 1; have ft := bxt.frozen 1; have o0 := HOy.out.below bX.out HOy.out.lt; have o5 := o0.cell 5; obtain ⟨W5, hW5⟩ : ∃ W, (x5.setCell ⟨g5, k, none⟩ (.slice none 0 0)).setCell ⟨tb, 1, none⟩ (.slice (some ⟨g5, 0, none⟩) nF c5) = W := ⟨_, rfl⟩; have hd := refDrop_end HRy.out bX.out HnF.out O5.out hW5; have HD := Lib.hid hd.1; have HK := Lib.hid hd.2; have hbx5 : Box W5 (w.heap.size + 1) 35 _ := hd.2.keep _ _ HXy.out (fun cur t fz e => by injection e with _ e _; subst e; exact ⟨by decide, by decide⟩); clear hd; obtain ⟨r0, r1, r2, r3, r4, k0, k1, k2, k3, k4⟩ := box5 hbx5; obtain ⟨W3, hW3⟩ : ∃ W3, ((((W5.setCell ⟨w.heap.size + 1, 0, none⟩ (.int .i64 0)).setCell ⟨w.heap.size + 1, 1, none⟩ (.bool false)).setCell ⟨w.heap.size + 1, 2, none⟩ (.slice none 0 0)).setCell ⟨w.heap.size + 1, 3, none⟩ (.slice none 0 0)).setCell ⟨w.heap.size + 1, 4, none⟩ (.int .i64 0) = W3 := ⟨_, rfl⟩; obtain ⟨p0, p1, p2, p3, p4, -⟩ := box5 (box5_store hbx5 hW3); have hend := clash_end (a := ⟨0, false, [], [], 0⟩) (a' := ⟨0, false, [], [], 0⟩) Hbw2.out (Nat.le_succ _) H.out.old HK.out HD.out hbx5 (World.ownsRow_nil _ _ _ _) (RowsIs.nil _ _) hW3 rfl rfl; rw [List.map_set] at hend; have Hend := Lib.hid hend; clear hend; clear hbx5; clear ho5 hg5 hz5 ho5' o0)
    refine bodyPost_ret (v := replyV 0 false (.slice none 0 0) (.slice none 0 0) 0) ?_ rfl ⟨_, rfl, Hend.out⟩
    simp [results, Tryz.results10, go_sem, replyV, p0, p1, p2, p3, p4]
end
end Go.Proofs.YtknfjajmnlpfjaaGreat

namespace Go.Proofs.YtknfjajmnlpfjaaGreat
open Go.RowKit
open Go.Lib (strCells compareBytes)

section
variable {w : World} {B tb : Nat} {rv xv : Value} {rs : Kv (Value × List TVal)} {F : List (Value × List Int)}
set_option maxRecDepth 100000 in
set_option maxHeartbeats 3200000 in
theorem ref_err (h : RSt w B tb rv xv rs F) (K : Int) (C : Nat) (hC : C ≤ w.heap.size) (key to : ByteArray) (rc old low high : List TVal) (id lim sp nd : Int) (fs : List Int) (Ar Ao Af Al Ah : Option Addr) (nr cr no co nf cf nl cl nh ch : Nat)
    (ho : OpIs w C (.agg #[.int .i64 K, .string key, .string to, .slice Ar nr cr, .slice Ao no co, .int .i64 id, .slice Af nf cf, .slice Al nl cl, .slice Ah nh ch, .int .i64 lim, .int .i64 sp, .int .i64 nd]) ⟨K, key, to, rc, old, id, fs, low, high, lim, sp, nd⟩) (hz : ¬ checkT ⟨K, key, to, rc, old, id, fs, low, high, lim, sp, nd⟩ = 0) :
    Calls Tryz.prog 10 #[.pointer (some ⟨tb, 0, none⟩), .agg #[.int .i64 K, .string key, .string to, .slice Ar nr cr, .slice Ao no co, .int .i64 id, .slice Af nf cf, .slice Al nl cl, .slice Ah nh ch, .int .i64 lim, .int .i64 sp, .int .i64 nd]] w (RefPost B tb (mapK (·.2) rs) (F.map (·.2)) ⟨(checkT ⟨K, key, to, rc, old, id, fs, low, high, lim, sp, nd⟩ : Int), false, [], [], 0⟩ w) := by
  obtain ⟨w00, hw00⟩ : ∃ w00, w.alloc (.cells #[.int .i64 K, .string key, .string to, .slice Ar nr cr, .slice Ao no co, .int .i64 id, .slice Af nf cf, .slice Al nl cl, .slice Ah nh ch, .int .i64 lim, .int .i64 sp, .int .i64 nd] 39) = w00 := ⟨_, rfl⟩
  have hb00 : Below w.heap.size w w00 := hw00 ▸ below_alloc _ _
  have hbo0 : Box w00 w.heap.size 39 #[.int .i64 K, .string key, .string to, .slice Ar nr cr, .slice Ao no co, .int .i64 id, .slice Af nf cf, .slice Al nl cl, .slice Ah nh ch, .int .i64 lim, .int .i64 sp, .int .i64 nd] := hw00 ▸ Box.made _ _ _
  have hs00 : w00.heap.size = w.heap.size + 1 := by rw [← hw00]; simp
  obtain ⟨w0, hw0⟩ : ∃ w0, w00.alloc (.cells #[.int .i64 0, .bool false, .slice none 0 0, .slice none 0 0, .int .i64 0] 35) = w0 := ⟨_, rfl⟩
  have hb0 : Below w.heap.size w w0 := Below.then hb00 (hw0 ▸ below_alloc _ _)
  have hbx : Box w0 (w.heap.size + 1) 35 #[.int .i64 0, .bool false, .slice none 0 0, .slice none 0 0, .int .i64 0] := hw0 ▸ made_at hs00 _ _
  have hbo : Box w0 w.heap.size 39 #[.int .i64 K, .string key, .string to, .slice Ar nr cr, .slice Ao no co, .int .i64 id, .slice Af nf cf, .slice Al nl cl, .slice Ah nh ch, .int .i64 lim, .int .i64 sp, .int .i64 nd] := hw0 ▸ hbo0.alloc _
  have hsz : w0.heap.size = w.heap.size + 1 + 1 := by rw [← hw0]; simp [hs00]
  have hchk := refCheck_any _ _ C w0 (Nat.le_trans hC hb0.size) (ho.belowOf hb0 hC)
  have e0 := hbo.cell 0; have e1 := hbo.cell 1; have e2 := hbo.cell 2; have e3 := hbo.cell 3; have e4 := hbo.cell 4; have e5 := hbo.cell 5
  have e6 := hbo.cell 6; have e7 := hbo.cell 7; have e8 := hbo.cell 8; have e9 := hbo.cell 9; have e10 := hbo.cell 10; have e11 := hbo.cell 11
  have H := Lib.hid h
  have Hbx := Lib.hid hbx
  have Hbo := Lib.hid hbo
  have Hb0 := Lib.hid hb0
  have Hsz := Lib.hid hsz
  have Hchk := Lib.hid hchk
  clear hbo hbo0 hb00 hb0 hbx hsz hchk h ho
  obtain ⟨cz, hcz⟩ : ∃ c, checkT ⟨K, key, to, rc, old, id, fs, low, high, lim, sp, nd⟩ = c := ⟨_, rfl⟩
  rw [hcz] at Hchk hz ⊢
  have czb : ((cz : Int) != 0) = true := by simp; omega
  clear hcz
  go_enter Tryz.func10, Tryz.ntmps10
  go_wp2_with fail
  refine Hchk.out.mono ?_
  rintro e w1 ⟨rfl, hb1⟩
  have hbo1 := Hbo.out.below hb1 Hbo.out.lt
  obtain ⟨a0, a1, a2, a3, a4, a5, a6, a7, a8, a9, a10, a11⟩ := box12R hbo1
  have Hbo1 := Lib.hid hbo1
  have Hb1 := Lib.hid hb1
  have Hbw := Lib.hid (Below.trans Hb0.out (hb1.mono (by rw [Hsz.out]; omega)))
  have Hbx1 := Lib.hid (Hbx.out.below hb1 Hbx.out.lt)
  have Hlt1 : Hid (w.heap.size + 1 < w1.heap.size) := Lib.hid (by have := hb1.size; have := Hsz.out; omega)
  clear hbo1 hb1
  clear a0 a1 a2 a3 a4 a5 a6 a7 a8 a9 a10 a11
  have hbx5 := Hbx1.out
  obtain ⟨r0, r1, r2, r3, r4, k0, k1, k2, k3, k4⟩ := box5 hbx5
  obtain ⟨W3, hW3⟩ : ∃ W3, ((((w1.setCell ⟨w.heap.size + 1, 0, none⟩ (.int .i64 (cz : Int))).setCell ⟨w.heap.size + 1, 1, none⟩ (.bool false)).setCell ⟨w.heap.size + 1, 2, none⟩ (.slice none 0 0)).setCell ⟨w.heap.size + 1, 3, none⟩ (.slice none 0 0)).setCell ⟨w.heap.size + 1, 4, none⟩ (.int .i64 0) = W3 := ⟨_, rfl⟩
  obtain ⟨p0, p1, p2, p3, p4, -⟩ := box5 (box5_store hbx5 hW3)
  have Hend := Lib.hid (clash_end (a := ⟨(cz : Int), false, [], [], 0⟩) (a' := ⟨(cz : Int), false, [], [], 0⟩) Hbw.out (Nat.le_succ _) H.out.old (RKept.refl _ _) (H.out.below Hbw.out) hbx5 (World.ownsRow_nil _ _ _ _) (RowsIs.nil _ _) hW3 rfl rfl)
  clear hbx5
  go_wp2
  refine bodyPost_ret (v := replyV (cz : Int) false (.slice none 0 0) (.slice none 0 0) 0) ?_ rfl ⟨_, rfl, Hend.out⟩
  simp [results, Tryz.results10, go_sem, replyV, p0, p1, p2, p3, p4]
set_option maxRecDepth 100000 in
set_option maxHeartbeats 3200000 in
theorem ref_other (h : RSt w B tb rv xv rs F) (K : Int) (C : Nat) (hC : C ≤ w.heap.size) (key to : ByteArray) (rc old low high : List TVal) (id lim sp nd : Int) (fs : List Int) (Ar Ao Af Al Ah : Option Addr) (nr cr no co nf cf nl cl nh ch : Nat)
    (ho : OpIs w C (.agg #[.int .i64 K, .string key, .string to, .slice Ar nr cr, .slice Ao no co, .int .i64 id, .slice Af nf cf, .slice Al nl cl, .slice Ah nh ch, .int .i64 lim, .int .i64 sp, .int .i64 nd]) ⟨K, key, to, rc, old, id, fs, low, high, lim, sp, nd⟩) (hz : checkT ⟨K, key, to, rc, old, id, fs, low, high, lim, sp, nd⟩ = 0) (hl : rs.length ≤ 1000) (hK : 8 < K) :
    Calls Tryz.prog 10 #[.pointer (some ⟨tb, 0, none⟩), .agg #[.int .i64 K, .string key, .string to, .slice Ar nr cr, .slice Ao no co, .int .i64 id, .slice Af nf cf, .slice Al nl cl, .slice Ah nh ch, .int .i64 lim, .int .i64 sp, .int .i64 nd]] w (RefPost B tb (mapK (·.2) rs) (F.map (·.2)) ⟨0, false, [], [], 0⟩ w) := by
  obtain ⟨w00, hw00⟩ : ∃ w00, w.alloc (.cells #[.int .i64 K, .string key, .string to, .slice Ar nr cr, .slice Ao no co, .int .i64 id, .slice Af nf cf, .slice Al nl cl, .slice Ah nh ch, .int .i64 lim, .int .i64 sp, .int .i64 nd] 39) = w00 := ⟨_, rfl⟩
  have hb00 : Below w.heap.size w w00 := hw00 ▸ below_alloc _ _
  have hbo0 : Box w00 w.heap.size 39 #[.int .i64 K, .string key, .string to, .slice Ar nr cr, .slice Ao no co, .int .i64 id, .slice Af nf cf, .slice Al nl cl, .slice Ah nh ch, .int .i64 lim, .int .i64 sp, .int .i64 nd] := hw00 ▸ Box.made _ _ _
  have hs00 : w00.heap.size = w.heap.size + 1 := by rw [← hw00]; simp
  obtain ⟨w0, hw0⟩ : ∃ w0, w00.alloc (.cells #[.int .i64 0, .bool false, .slice none 0 0, .slice none 0 0, .int .i64 0] 35) = w0 := ⟨_, rfl⟩
  have hb0 : Below w.heap.size w w0 := Below.then hb00 (hw0 ▸ below_alloc _ _)
  have hbx : Box w0 (w.heap.size + 1) 35 #[.int .i64 0, .bool false, .slice none 0 0, .slice none 0 0, .int .i64 0] := hw0 ▸ made_at hs00 _ _
  have hbo : Box w0 w.heap.size 39 #[.int .i64 K, .string key, .string to, .slice Ar nr cr, .slice Ao no co, .int .i64 id, .slice Af nf cf, .slice Al nl cl, .slice Ah nh ch, .int .i64 lim, .int .i64 sp, .int .i64 nd] := hw0 ▸ hbo0.alloc _
  have hsz : w0.heap.size = w.heap.size + 1 + 1 := by rw [← hw0]; simp [hs00]
  have hchk := refCheck_any _ _ C w0 (Nat.le_trans hC hb0.size) (ho.belowOf hb0 hC)
  have e0 := hbo.cell 0; have e1 := hbo.cell 1; have e2 := hbo.cell 2; have e3 := hbo.cell 3; have e4 := hbo.cell 4; have e5 := hbo.cell 5
  have e6 := hbo.cell 6; have e7 := hbo.cell 7; have e8 := hbo.cell 8; have e9 := hbo.cell 9; have e10 := hbo.cell 10; have e11 := hbo.cell 11
  have H := Lib.hid h
  have Hbx := Lib.hid hbx
  have Hbo := Lib.hid hbo
  have Hb0 := Lib.hid hb0
  have Hsz := Lib.hid hsz
  have Hchk := Lib.hid hchk
  clear hbo hbo0 hb00 hb0 hbx hsz hchk h ho
  rw [hz] at Hchk
  have n1 : (K == 1) = false := by simp; omega
  have n2 : (K == 2) = false := by simp; omega
  have n3 : (K == 3) = false := by simp; omega
  have n4 : (K == 4) = false := by simp; omega
  have n5 : (K == 5) = false := by simp; omega
  have n6 : (K == 6) = false := by simp; omega
  have n7 : (K == 7) = false := by simp; omega
  have n8 : (K == 8) = false := by simp; omega
  go_enter Tryz.func10, Tryz.ntmps10
  go_wp2_with fail
  refine Hchk.out.mono ?_
  rintro e w1 ⟨rfl, hb1⟩
  have hbo1 := Hbo.out.below hb1 Hbo.out.lt
  obtain ⟨a0, a1, a2, a3, a4, a5, a6, a7, a8, a9, a10, a11⟩ := box12R hbo1
  have Hbo1 := Lib.hid hbo1
  have Hb1 := Lib.hid hb1
  have Hbw := Lib.hid (Below.trans Hb0.out (hb1.mono (by rw [Hsz.out]; omega)))
  have Hbx1 := Lib.hid (Hbx.out.below hb1 Hbx.out.lt)
  have Hlt1 : Hid (w.heap.size + 1 < w1.heap.size) := Lib.hid (by have := hb1.size; have := Hsz.out; omega)
  clear hbo1 hb1
  have Hfind := Lib.hid (refFind_any (H.out.below Hbw.out) key hl)
  have hrise := H.out.rise
  obtain ⟨P, hP⟩ : ∃ P, posK key.data.toList rs = P := ⟨_, rfl⟩
  obtain ⟨is, his⟩ : ∃ b, (getK key.data.toList rs).isSome = b := ⟨_, rfl⟩
  have hget := getK_pos key.data.toList rs hrise
  rw [hP, his] at Hfind
  rw [hP] at hget
  have HP := Lib.hid hP
  have HS := Lib.hid his
  have Hget := Lib.hid hget
  have Hl := Lib.hid hl
  have His : Hid (is = (getK key.data.toList (mapK (·.2) rs)).isSome) := Lib.hid (by rw [← his]; exact (isSome_mapK _ _).symm)
  clear hP his hget hrise hl
  go_wp2_with fail
  refine Hfind.out.mono ?_
  rintro e w2 ⟨rfl, m2, h2⟩
  have hbo2 := Hbo1.out.below (below_drews (Below.refl w1.heap.size w1) m2) Hbo1.out.lt
  have hbx2 := Hbx1.out.below (below_drews (Below.refl w1.heap.size w1) m2) Hbx1.out.lt
  rw [← h2] at hbo2 hbx2
  have Hb2 : Hid (Below w.heap.size w w2) := Lib.hid (by rw [h2]; exact below_drews Hbw.out m2)
  have Hlt2 : Hid (w.heap.size + 1 < w2.heap.size) := Lib.hid (by rw [h2]; exact Hlt1.out)
  have HR2 : Hid (RSt w2 B tb rv xv rs F) := Lib.hid (H.out.below Hb2.out)
  have Hbx2 := Lib.hid hbx2
  have Hbo2 := Lib.hid hbo2
  have Htb := Lib.hid H.out.lt
  clear h2 a0 a1 a2 a3 a4 a5 a6 a7 a8 a9 a10 a11
  obtain ⟨a0, a1, a2, a3, a4, a5, a6, a7, a8, a9, a10, a11⟩ := box12R hbo2
  obtain ⟨tc0, tc1, -, -⟩ := HR2.out.cells
  have hrw := HR2.out.rows
  obtain ⟨Aw, N, cw, hre, hwl⟩ : ∃ Aw N cw, rv = .slice Aw N cw ∧ rs.length = N := by
    obtain ⟨A', c', e, -⟩ := own_sliceN hrw
    exact ⟨A', _, c', e, rfl⟩
  rw [hre] at tc0
  clear hbo2 hbx2
  cases is with
  | true =>
    obtain ⟨x, hx, hxk⟩ : ∃ x, rs[P]? = some x ∧ getK key.data.toList rs = some x.2 := by
      have h1 := Hget.out
      have h2 := HS.out
      rw [h1] at h2
      cases hp : rs[P]? with
      | none => rw [hp] at h2; cases h2
      | some x =>
        rw [hp] at h1 h2
        refine ⟨x, rfl, ?_⟩
        simp only [Option.bind_some] at h1 h2
        by_cases e : x.1 = key.data.toList
        · rw [if_pos e] at h1
          exact h1
        · rw [if_neg e] at h2
          cases h2
    have hPN : P < N := by rw [← hwl]; exact (List.getElem?_eq_some_iff.1 hx).1
    have hrw' := hrw
    rw [hre, hwl] at hrw'
    obtain ⟨aw, rfl, hcw⟩ := row_cellR hrw' hPN hx
    have hxo := HR2.out.recs x (List.mem_of_getElem? hx)
    obtain ⟨Ax, cx, ex, -⟩ := own_sliceN hxo
    obtain ⟨zx, hzx⟩ : ∃ z, x.2.2.length = z := ⟨_, rfl⟩
    rw [hzx] at ex
    rw [ex] at hcw
    have Hxo : Hid (w2.ownsRow B 53 3 (.slice Ax zx cx) x.2.2.length (valCells x.2.2)) := Lib.hid (by rw [← ex]; exact hxo)
    have Hzx := Lib.hid hzx
    have Hxk : Hid ((getK key.data.toList (mapK (·.2) rs)).getD [] = x.2.2) := Lib.hid (by rw [mapK_get, hxk]; rfl)
    have p0 : (0 : Int) ≤ (P : Int) := by omega
    have p1 : (P : Int) < (N : Int) := by omega
    clear hx hxk hxo ex hrw' hzx
    have hbx5 := Hbx2.out
    obtain ⟨r0, r1, r2, r3, r4, k0, k1, k2, k3, k4⟩ := box5 hbx5
    obtain ⟨W3, hW3⟩ : ∃ W3, ((((w2.setCell ⟨w.heap.size + 1, 0, none⟩ (.int .i64 0)).setCell ⟨w.heap.size + 1, 1, none⟩ (.bool false)).setCell ⟨w.heap.size + 1, 2, none⟩ (.slice none 0 0)).setCell ⟨w.heap.size + 1, 3, none⟩ (.slice none 0 0)).setCell ⟨w.heap.size + 1, 4, none⟩ (.int .i64 0) = W3 := ⟨_, rfl⟩
    obtain ⟨p0, p1, p2, p3, p4, -⟩ := box5 (box5_store hbx5 hW3)
    have Hend := Lib.hid (clash_end (a := ⟨0, false, [], [], 0⟩) (a' := ⟨0, false, [], [], 0⟩) Hb2.out (Nat.le_succ _) H.out.old (RKept.refl _ _) HR2.out hbx5 (World.ownsRow_nil _ _ _ _) (RowsIs.nil _ _) hW3 rfl rfl)
    clear hbx5
    go_wp2
    refine bodyPost_ret (v := replyV 0 false (.slice none 0 0) (.slice none 0 0) 0) ?_ rfl ⟨_, rfl, Hend.out⟩
    simp [results, Tryz.results10, go_sem, replyV, p0, p1, p2, p3, p4]
  | false =>
    have Hxk : Hid ((getK key.data.toList (mapK (·.2) rs)).getD [] = []) := Lib.hid (by
      have h1 := His.out
      cases e : getK key.data.toList (mapK (·.2) rs) with
      | none => rfl
      | some x => rw [e] at h1; cases h1)
    have hbx5 := Hbx2.out
    obtain ⟨r0, r1, r2, r3, r4, k0, k1, k2, k3, k4⟩ := box5 hbx5
    obtain ⟨W3, hW3⟩ : ∃ W3, ((((w2.setCell ⟨w.heap.size + 1, 0, none⟩ (.int .i64 0)).setCell ⟨w.heap.size + 1, 1, none⟩ (.bool false)).setCell ⟨w.heap.size + 1, 2, none⟩ (.slice none 0 0)).setCell ⟨w.heap.size + 1, 3, none⟩ (.slice none 0 0)).setCell ⟨w.heap.size + 1, 4, none⟩ (.int .i64 0) = W3 := ⟨_, rfl⟩
    obtain ⟨p0, p1, p2, p3, p4, -⟩ := box5 (box5_store hbx5 hW3)
    have Hend := Lib.hid (clash_end (a := ⟨0, false, [], [], 0⟩) (a' := ⟨0, false, [], [], 0⟩) Hb2.out (Nat.le_succ _) H.out.old (RKept.refl _ _) HR2.out hbx5 (World.ownsRow_nil _ _ _ _) (RowsIs.nil _ _) hW3 rfl rfl)
    clear hbx5
    go_wp2
    refine bodyPost_ret (v := replyV 0 false (.slice none 0 0) (.slice none 0 0) 0) ?_ rfl ⟨_, rfl, Hend.out⟩
    simp [results, Tryz.results10, go_sem, replyV, p0, p1, p2, p3, p4]
end
end Go.Proofs.YtknfjajmnlpfjaaGreat

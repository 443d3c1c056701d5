/- put, declare and query as Do asks for them; what the document tells of a first store (awake). No condition. -/
import Derived.Test.YtknfjajmnlpfjaaGreatPlnJ
import Derived.Test.YtknfjajmnlpfjaaGreatStep
import Derived.Deep.RegionLaw
import Derived.Test.YtknfjajmnlpfjaaGreatMdA
import Derived.Test.YtknfjajmnlpfjaaGreatMdD
namespace Go.Proofs.YtknfjajmnlpfjaaGreat
open Go.RowKit
open Go.Lib (strCells compareBytes)

/-- five stores into block g: another block stays -/
theorem heap5 {w W : World} {g i : Nat} {x' y' z' u' v' : Value} (hi : i ≠ g) (hW : ((((w.setCell ⟨g, 0, none⟩ x').setCell ⟨g, 1, none⟩ y').setCell ⟨g, 2, none⟩ z').setCell ⟨g, 3, none⟩ u').setCell ⟨g, 4, none⟩ v' = W) : W.heap[i]? = w.heap[i]? := by
  have hig : ∀ (j : Nat), i ≠ (⟨g, j, none⟩ : Addr).block := fun j => hi
  rw [← hW, Below.heap_setCell _ _ _ _ (hig 4), Below.heap_setCell _ _ _ _ (hig 3), Below.heap_setCell _ _ _ _ (hig 2), Below.heap_setCell _ _ _ _ (hig 1), Below.heap_setCell _ _ _ _ (hig 0)]
theorem same5 {w W : World} {g : Nat} {x' y' z' u' v' : Value} (hW : ((((w.setCell ⟨g, 0, none⟩ x').setCell ⟨g, 1, none⟩ y').setCell ⟨g, 2, none⟩ z').setCell ⟨g, 3, none⟩ u').setCell ⟨g, 4, none⟩ v' = W) : W.os = w.os ∧ W.tape = w.tape ∧ W.output = w.output ∧ W.heap.size = w.heap.size := by
  have h := below5 (Below.refl g w) hW
  exact ⟨h.os, h.tape, h.output, by rw [← hW]; simp [World.setCell]⟩

/-- one more index at the end -/
theorem ix_snoc {X : List Ix} {d : Nat} {x : Ix} (h1 : X.Pairwise fun x y => x.num < y.num) (h2 : ∀ x ∈ X, x.num ≤ d) (hx : x.num = (d : Int) + 1) : (X ++ [x]).Pairwise fun x y => x.num < y.num := by
  refine List.pairwise_append.2 ⟨h1, by simp, fun a ha b hb => ?_⟩
  simp only [List.mem_singleton] at hb
  subst hb
  have := h2 a ha
  omega

/-- the store with another row of indexes, in a world that keeps all else of it -/
theorem Store.newIx {w W : World} {B sb mb d d' : Nat} {ix ix' : Value} {E : Kv (Value × List TVal)} {X X' : List Ix} (h : Store w B sb mb ix E X d) (hbox : Box W sb 59 #[.map (some mb), ix', .int .i64 d'])
    (hk : ∀ i, i < w.heap.size → i ≠ sb → some i ≠ ix.ownBlock → W.heap[i]? = w.heap[i]?) (hrow : W.ownsRow B 74 2 ix' X'.length (ixCells X')) (hf : ∀ x ∈ X', W.ownsRow B 3 1 x.v x.fs.length (intCells x.fs))
    (hi : X'.Pairwise fun x y => x.num < y.num) (hn : ∀ x ∈ X', 1 ≤ x.num ∧ x.num ≤ d' ∧ idxErr 1 x.fs = 0 ∧ ∀ n ∈ x.fs, InI64 n) (hd : d' ≤ 6) : Store W B sb mb ix' E X' d' := by
  have hap := h.apart
  refine { h with
    box := hbox
    own := map_keep h.own (hk mb h.lt.2 (fun e => hap.1 e.symm) fun e => (hap.2 mb e.symm).2 rfl)
    recs := fun p hp => own_keep (h.recs p hp) fun i hi => hk i ((h.recs p hp).lt i hi).2 (fun e => ?_) fun e => ?_
    irow := hrow
    flds := hf
    ids := hi
    nums := hn
    most := hd }
  · obtain ⟨cur, hc⟩ := own_type (h.recs p hp) hi
    have hb := h.box
    unfold Box at hb
    rw [e, hb] at hc
    injection hc with hc; injection hc with _ hc; exact absurd hc (by decide)
  · obtain ⟨cur, hc⟩ := own_type (h.recs p hp) hi
    obtain ⟨cur', hc'⟩ := own_type h.irow e.symm
    rw [hc'] at hc
    injection hc with hc; injection hc with _ hc; exact absurd hc (by decide)
/-- a row of fields stays where the store's own block and the indexes' turn -/
theorem Store.fldKept {w W : World} {B sb mb d : Nat} {ix : Value} {E : Kv (Value × List TVal)} {X : List Ix} (h : Store w B sb mb ix E X d) (hk : ∀ i, i < w.heap.size → i ≠ sb → some i ≠ ix.ownBlock → W.heap[i]? = w.heap[i]?) {x : Ix} (hx : x ∈ X) : W.ownsRow B 3 1 x.v x.fs.length (intCells x.fs) := by
  refine own_keep (h.flds x hx) fun i hi => hk i ((h.flds x hx).lt i hi).2 (fun e => ?_) fun e => ?_
  · obtain ⟨cur, hc⟩ := own_type (h.flds x hx) hi
    have hb := h.box
    unfold Box at hb
    rw [e, hb] at hc
    injection hc with hc; injection hc with _ hc; exact absurd hc (by decide)
  · obtain ⟨cur, hc⟩ := own_type (h.flds x hx) hi
    obtain ⟨cur', hc'⟩ := own_type h.irow e.symm
    rw [hc'] at hc
    injection hc with hc; injection hc with _ hc; exact absurd hc (by decide)

theorem decl_end {w w0 w1 wL wA W3 : World} {B sb mb d : Nat} {ix ix' fv : Value} {E : Kv (Value × List TVal)} {X : List Ix} {l : List Int} {x' y' z' u' v' : Value} (h : Store w B sb mb ix E X d) (hb0 : Below w.heap.size w w0) (hk1 : ∀ i, i ≠ sb → w1.heap[i]? = w0.heap[i]?) (hs1 : w1.heap.size = w.heap.size + 1)
    (hsame : w1.os = w.os ∧ w1.tape = w.tape ∧ w1.output = w.output) (bL : Below w1.heap.size w1 wL) (gA : wL.grownBy wA ix.ownBlock) (oA : wA.ownsRow B 74 2 ix' (X.length + 1) (ixCells X ++ ixCells [⟨(d : Int) + 1, fv, l⟩])) (zA : ix'.ownBlock = ix.ownBlock ∨ ix'.ownBlock = some wL.heap.size)
    (bxA : Box wA sb 59 #[.map (some mb), ix, .int .i64 ((d : Int) + 1)]) (oF : wL.ownsRow w1.heap.size 3 1 fv l.length (intCells l))
    (hW : (((((wA.setCell ⟨sb, 1, none⟩ ix').setCell ⟨w.heap.size, 0, none⟩ x').setCell ⟨w.heap.size, 1, none⟩ y').setCell ⟨w.heap.size, 2, none⟩ z').setCell ⟨w.heap.size, 3, none⟩ u').setCell ⟨w.heap.size, 4, none⟩ v' = W3) (hl : idxErr 1 l = 0) (hin : ∀ x ∈ l, InI64 x) (hd : d < 6) :
    Store W3 B sb mb ix' E (X ++ [⟨(d : Int) + 1, fv, l⟩]) (d + 1) ∧ Kept3 sb mb ix w W3 ∧ ∀ g, ix'.ownBlock = some g → ix.ownBlock = some g ∨ w.heap.size ≤ g := by
  have hsb := h.lt.1
  have hixlt : ∀ g, ix.ownBlock = some g → g ≠ sb ∧ g < w.heap.size := fun g hg => ⟨(h.apart.2 g hg).1, (h.irow.lt g hg).2⟩
  have h5 : ∀ i, i ≠ w.heap.size → i ≠ sb → W3.heap[i]? = wA.heap[i]? := fun i h1 h2 => (heap5 h1 hW).trans (Below.heap_setCell _ _ _ _ h2)
  have hk : ∀ i, i < w.heap.size → i ≠ sb → some i ≠ ix.ownBlock → W3.heap[i]? = w.heap[i]? := fun i hi h1 h2 => by
    have hi1 : i < w1.heap.size := by omega
    rw [h5 i (by omega) h1, gA.block i (Nat.lt_of_lt_of_le hi1 bL.size) h2, bL.block i hi1, hk1 i h1, hb0.block i hi]
  have hszA : w1.heap.size ≤ wA.heap.size := Nat.le_trans bL.size gA.size
  have hix' : ∀ g, ix'.ownBlock = some g → ix.ownBlock = some g ∨ w.heap.size + 1 ≤ g := fun g hg => by
    rcases zA with e | e
    · exact .inl (e ▸ hg)
    · rw [e] at hg
      injection hg with hg
      have := bL.size
      exact .inr (by omega)
  have hrow : W3.ownsRow B 74 2 ix' (X ++ [(⟨(d : Int) + 1, fv, l⟩ : Ix)]).length (ixCells (X ++ [⟨(d : Int) + 1, fv, l⟩])) := by
    rw [ixCells_app, List.length_append]
    refine own_keep oA fun g hg => ?_
    rcases hix' g hg with e | e
    · exact h5 g (by have := (hixlt g e).2; omega) (hixlt g e).1
    · exact h5 g (by omega) (by omega)
  have hfv : W3.ownsRow B 3 1 fv l.length (intCells l) := by
    have h1 := own_keep oF (w' := W3) fun g hg => by
      have hg1 := (oF.lt g hg)
      rw [h5 g (by omega) (by omega)]
      exact gA.block g hg1.2 (fun e => by have := (hixlt g e.symm).2; omega)
    exact own_base h1 (by have := h.sB; omega)
  have hsame5 := same5 hW
  have hbox : Box W3 sb 59 #[.map (some mb), ix', .int .i64 ((d + 1 : Nat) : Int)] := (heap5 (by omega) hW).trans (bxA.set_ 1 ix')
  refine ⟨h.newIx hbox hk hrow (fun x hx => ?_) (ix_snoc h.ids (fun x hx => (h.nums x hx).2.1) rfl) (fun x hx => ?_) hd, ?_, fun g hg => (hix' g hg).imp id (fun h => by omega)⟩
  · rcases List.mem_append.1 hx with hx | hx
    · exact h.fldKept hk hx
    · simp only [List.mem_singleton] at hx
      subst hx
      exact hfv
  · rcases List.mem_append.1 hx with hx | hx
    · have := h.nums x hx
      exact ⟨this.1, by omega, this.2.2⟩
    · simp only [List.mem_singleton] at hx
      subst hx
      exact ⟨by show (1 : Int) ≤ (d : Int) + 1; omega, by show (d : Int) + 1 ≤ _; omega, hl, hin⟩
  · refine ⟨hsame5.1.trans (gA.os.trans (bL.os.trans hsame.1)), hsame5.2.1.trans (gA.tape.trans (bL.tape.trans hsame.2.1)), hsame5.2.2.1.trans (gA.output.trans (bL.output.trans hsame.2.2)), ?_, fun i hi h1 _ h3 => hk i hi h1 h3⟩
    have : W3.heap.size = wA.heap.size := hsame5.2.2.2.trans (by simp [World.setCell])
    omega

section
variable {B sb mb d : Nat} {ix : Value} {E : Kv (Value × List TVal)} {X : List Ix} {w : World}
set_option maxRecDepth 100000 in
set_option maxHeartbeats 3200000 in
theorem declare_any (h : Store w B sb mb ix E X d) (r : Value) (l : List Int) (C : Nat) (hr : IsInts w C r l) (hC : C ≤ w.heap.size) (hne : ∀ a n c, r = .slice (some a) n c → a.block ≠ sb) (hl : idxErr 1 l = 0) (hd : d < 6) (hX : X.length ≤ 6) :
    Calls Tryz.prog 28 #[.pointer (some ⟨sb, 0, none⟩), r] w fun e w' => ∃ ix' fv, e = .returned (replyV 0 false (.slice none 0 0) (.slice none 0 0) ((d : Int) + 1)) ∧ Store w' B sb mb ix' E (X ++ [⟨(d : Int) + 1, fv, l⟩]) (d + 1) ∧ Kept3 sb mb ix w w' ∧ ∀ g, ix'.ownBlock = some g → ix.ownBlock = some g ∨ w.heap.size ≤ g := by
  obtain ⟨A, n, c, rfl, h1, h2, h3, h4⟩ := hr
  have hCw := hC
  have hne' : ∀ a, A = some a → a.block ≠ sb := fun a e => hne a n c (by rw [e])
  have hn : 1 ≤ n ∧ n ≤ 2 := by
    have := h3.1
    unfold idxErr at hl
    by_cases e1 : isIdB 1 = false ∨ l.length = 0
    · rw [if_pos e1] at hl; omega
    · rw [if_neg e1] at hl
      by_cases e2 : 2 < l.length
      · rw [if_pos e2] at hl; omega
      · have : ¬ l.length = 0 := fun e => e1 (.inr e)
        omega
  have Hrec : Hid (∀ wx, (C ≤ wx.heap.size ∧ ∀ p : Addr, p.block < C → p.block ≠ sb → wx.cell? p = w.cell? p) → Calls Tryz.prog 42 #[.slice A n c] wx fun e w' => ∃ v, e = .returned v ∧ w'.ownsRow wx.heap.size 3 1 v l.length (intCells l) ∧ Below wx.heap.size wx w') := Lib.hid (fun wx hb =>
    cloneInts_any A n c C l wx ⟨h3.1, h3.2.1, fun k u hu => by
      obtain ⟨a, e, hab, hc⟩ := h3.2.2 k u hu
      exact ⟨a, e, hab, (hb.2 _ (by rw [addr_block]; exact hab) (by rw [addr_block]; exact hne' a e)).trans hc⟩⟩ hn.1 (by omega) hb.1)
  have Hin := Lib.hid (show ∀ x ∈ l, InI64 x from h4)
  clear h1 h2 h3 h4 hn hne hne'
  obtain ⟨w0, hw0⟩ : ∃ w0, w.alloc (.cells #[.int .i64 0, .bool false, .slice none 0 0, .slice none 0 0, .int .i64 0] 35) = w0 := ⟨_, rfl⟩
  have hb0 : Below w.heap.size w w0 := hw0 ▸ below_alloc _ _
  have hbx : Box w0 w.heap.size 35 #[.int .i64 0, .bool false, .slice none 0 0, .slice none 0 0, .int .i64 0] := hw0 ▸ Box.made _ _ _
  have hsz : w0.heap.size = w.heap.size + 1 := by rw [← hw0]; simp
  have h0 := h.below hb0
  obtain ⟨q0, q1, q2, f0, f1, f2⟩ := h0.cells
  obtain ⟨Ai, ci, rfl, -⟩ := own_sliceN h.irow
  -- the world behind 's.declared++'
  obtain ⟨w1, hw1⟩ : ∃ w1, w0.setCell ⟨sb, 2, none⟩ (.int .i64 ((d : Int) + 1)) = w1 := ⟨_, rfl⟩
  have hbx1 : Box w1 sb 59 #[.map (some mb), .slice Ai X.length ci, .int .i64 ((d : Int) + 1)] := hw1 ▸ h0.box.set_ 2 _
  have hk1 : ∀ i, i ≠ sb → w1.heap[i]? = w0.heap[i]? := fun i hi => by rw [← hw1]; exact Below.heap_setCell _ _ _ _ hi
  have hs1 : w1.heap.size = w.heap.size + 1 := by rw [← hw1, ← hsz]; simp [World.setCell]
  have hC1 : C ≤ w1.heap.size ∧ ∀ p : Addr, p.block < C → p.block ≠ sb → w1.cell? p = w.cell? p := ⟨by omega, fun p h1 h2 => by
    rw [World.cell?_of_block (hk1 p.block h2), hb0.cell (by omega)]⟩
  have hsame1 : w1.os = w.os ∧ w1.tape = w.tape ∧ w1.output = w.output := by
    rw [← hw1]; exact ⟨hb0.os, hb0.tape, hb0.output⟩
  have hir1 : w1.ownsRow B 74 2 (.slice Ai X.length ci) X.length (ixCells X) := own_keep h0.irow fun i hi => hk1 i (h0.apart.2 i hi).1
  have c1 := hbx1.cell 1
  have c2 := hbx1.cell 2
  have g1 := hbx1.frozen 1
  have g2 := hbx1.frozen 2
  have hdb : ((d : Int) == 6) = false := by simp; omega
  have hnb : ∀ g, (Value.slice Ai X.length ci).ownBlock = some g → g ≠ sb ∧ g < w.heap.size := fun g hg => ⟨(h.apart.2 g hg).1, (h.irow.lt g hg).2⟩
  have hgsb : w.heap.size ≠ sb := by have := h.lt.1; omega
  have Hbx := Lib.hid hbx
  have Hb0 := Lib.hid hb0
  have Hsz := Lib.hid hsz
  have H := Lib.hid h
  have Hbx1 := Lib.hid hbx1
  have Hk1 := Lib.hid hk1
  have Hs1 := Lib.hid hs1
  have HC1 := Lib.hid hC1
  have Hsame1 := Lib.hid hsame1
  have Hir1 := Lib.hid hir1
  have Hnb := Lib.hid hnb
  have Hl := Lib.hid hl
  have Hgsb := Lib.hid hgsb
  clear hb0 hbx hsz h0 h hbx1 hk1 hs1 hC1 hsame1 hir1 hnb hl hgsb f0 q0
  go_enter Tryz.func28, Tryz.ntmps28
  go_wp2
  go_region_law (first | (refine step_append_hasN (by rfl) _ _ _ (by rfl) 74 idx_elem (by omega) Tryz.underlying49 (by rfl) irL (by rfl) litL (by intro u hu; simp [ixCells] at hu; rcases hu with rfl | rfl <;> rfl) (by simp only [maxLen]; omega) (by omega) (Nat.le_trans H.out.sB (by have := bxL.lt; omega)) ?_; intro ix' wA oA gA zA; obtain ⟨Ax, cx, rfl, -⟩ := own_sliceN oA; have bxA := bxL.grown gA (fun e => (Hnb.out _ e.symm).1 rfl); have c1A := bxA.cell 1; have f1A := bxA.frozen 1) | (go_simp; go_wp2_with (first | (go_at_call 42; refine (Hrec.out _ ?_).mono ?_; exact HC1.out; rintro e wR ⟨fv, rfl, oR, bR⟩; obtain ⟨Av, cv, rfl, -⟩ := own_slice oR; have bR1 : Below w1.heap.size w1 wR := Below.then (below_drew _) bR; have bxR := Hbx1.out.below bR1 Hbx1.out.lt; have c1R := bxR.cell 1; have c2R := bxR.cell 2; have irR := own_belowN Hir1.out bR1; obtain ⟨wL, hwL⟩ : ∃ wL, wR.alloc (.cells #[.int .i64 ((d : Int) + 1), .slice Av l.length cv] 74) = wL := ⟨_, rfl⟩; have bL : Below wR.heap.size wR wL := hwL ▸ below_alloc _ _; have bxL := bxR.below bL bxR.lt; have c1L := bxL.cell 1; have litL : Has wL (wR.heap.size + 1) (some ⟨wR.heap.size, 0, none⟩) (1 * 2) (ixCells [⟨(d : Int) + 1, .slice Av l.length cv, l⟩]) := hwL ▸ Has.lit wR #[.int .i64 ((d : Int) + 1), .slice Av l.length cv] _; have irL := own_belowN irR bL))))
  all_goals
    have bx5 := bxA.set_ 1 (.slice Ax (X.length + 1) cx)
    have c25 := bx5.cell 2
    have hbr : Box (wA.setCell ⟨sb, 1, none⟩ (.slice Ax (X.length + 1) cx)) w.heap.size 35 #[.int .i64 0, .bool false, .slice none 0 0, .slice none 0 0, .int .i64 0] :=
      Box.far ((((show Box w1 _ _ _ from (Hk1.out _ Hgsb.out).trans Hbx.out).below (Below.then bR1 bL) (by rw [Hs1.out]; omega))).grown gA (fun e => by have := (Hnb.out _ e.symm).2; omega)) (fun e => Hgsb.out e) _
    obtain ⟨r0, r1, r2, r3, r4, k0, k1, k2, k3, k4⟩ := box5 hbr
    obtain ⟨W3, hW3⟩ : ∃ W3, (((((wA.setCell ⟨sb, 1, none⟩ (.slice Ax (X.length + 1) cx)).setCell ⟨w.heap.size, 0, none⟩ (.int .i64 0)).setCell ⟨w.heap.size, 1, none⟩ (.bool false)).setCell ⟨w.heap.size, 2, none⟩ (.slice none 0 0)).setCell ⟨w.heap.size, 3, none⟩ (.slice none 0 0)).setCell ⟨w.heap.size, 4, none⟩ (.int .i64 ((d : Int) + 1)) = W3 := ⟨_, rfl⟩
    obtain ⟨p0, p1, p2, p3, p4, -⟩ := box5 (box5_store hbr hW3)
    have Hend := Lib.hid (decl_end H.out Hb0.out Hk1.out Hs1.out Hsame1.out (Below.then bR1 bL) gA oA zA bxA (own_base (own_below oR bL) (by simp)) hW3 Hl.out Hin.out hd)
    clear bx5 hbr oA gA zA bxA c1A f1A irL litL c1L bxL bL irR c2R c1R bxR bR1 oR bR
    go_wp2
    refine bodyPost_ret (v := replyV 0 false (.slice none 0 0) (.slice none 0 0) ((d : Int) + 1)) ?_ rfl ⟨_, _, rfl, Hend.out⟩
    simp [results, Tryz.results28, go_sem, replyV, p0, p1, p2, p3, p4]
end
end Go.Proofs.YtknfjajmnlpfjaaGreat

namespace Go.Proofs.YtknfjajmnlpfjaaGreat
open Go.RowKit
open Go.Lib (strCells compareBytes)

/-- an answer in plain words -/
structure Ans where
  code : Int
  there : Bool
  rc : List TVal
  rows : Kv (List TVal)
  num : Int
def AnsIs (w : World) (base : Nat) (v : Value) (a : Ans) : Prop :=
  ∃ rv sv, v = replyV a.code a.there rv sv a.num ∧ w.ownsRow base 53 3 rv a.rc.length (valCells a.rc) ∧ RowsIs w base sv a.rows
theorem AnsIs.base {w : World} {b b' : Nat} {v : Value} {a : Ans} (h : AnsIs w b v a) (hb : b' ≤ b) : AnsIs w b' v a := by
  obtain ⟨rv, sv, h1, h2, h3⟩ := h
  exact ⟨rv, sv, h1, own_baseN h2 hb, h3.base hb⟩
def xi (x : Ix) : Int × List Int := (x.num, x.fs)
theorem RowsIs.nil (w : World) (b : Nat) : RowsIs w b (.slice none 0 0) [] := ⟨[], OwnRows.nil w b, rfl⟩
theorem ans_plain (w : World) (base : Nat) (code : Int) (there : Bool) (num : Int) : AnsIs w base (replyV code there (.slice none 0 0) (.slice none 0 0) num) ⟨code, there, [], [], num⟩ :=
  ⟨_, _, rfl, World.ownsRow_nil _ _ _ _, RowsIs.nil _ _⟩
/-- what an operation leaves: the answer a, the records M, the indexes I, of which n were declared -/
def DoPost (B sb mb : Nat) (ix : Value) (E : Kv (Value × List TVal)) (M : Kv (List TVal)) (I : List (Int × List Int)) (n : Nat) (a : Ans) (w : World) (e : Ending) (w' : World) : Prop :=
  ∃ v ix' E' X', e = .returned v ∧ AnsIs w' w.heap.size v a ∧ Store w' B sb mb ix' E' X' n ∧ mapK (·.2) E' = M ∧ X'.map xi = I ∧ Kept3 sb mb ix w w' ∧ (∀ g, ix'.ownBlock = some g → ix.ownBlock = some g ∨ w.heap.size ≤ g) ∧
    ∀ p ∈ E', p ∈ E ∨ w'.ownsRow w.heap.size 53 3 p.2.1 p.2.2.length (valCells p.2.2)
/-- an operation that leaves the store as it was -/
theorem do_same {B sb mb d : Nat} {ix : Value} {E : Kv (Value × List TVal)} {X : List Ix} {w w' : World} {v : Value} {a : Ans} (h : Store w B sb mb ix E X d) (ha : AnsIs w' w.heap.size v a) (hb : Below w.heap.size w w') :
    DoPost B sb mb ix E (mapK (·.2) E) (X.map xi) d a w (.returned v) w' :=
  ⟨v, ix, E, X, rfl, ha, h.below hb, rfl, rfl, Kept3.of hb, fun _ hg => .inl hg, fun _ hp => .inl hp⟩

theorem store5 {B sb mb d g : Nat} {ix : Value} {E : Kv (Value × List TVal)} {X : List Ix} {w W : World} {cs : Array Value} {x' y' z' u' v' : Value} (h : Store w B sb mb ix E X d) (hg : Box w g 35 cs)
    (hW : ((((w.setCell ⟨g, 0, none⟩ x').setCell ⟨g, 1, none⟩ y').setCell ⟨g, 2, none⟩ z').setCell ⟨g, 3, none⟩ u').setCell ⟨g, 4, none⟩ v' = W) : Store W B sb mb ix E X d :=
  h.frame fun i o hi ho _ => heap5 (fun e => by
    subst e
    unfold Box at hg
    rw [hg] at hi
    injection hi with hi
    subst hi
    simp only at ho
    rcases ho with ho | ho | ho | ho <;> exact absurd ho (by decide)) hW
theorem do_end {B sb mb d n g : Nat} {ix : Value} {E : Kv (Value × List TVal)} {X : List Ix} {w w1 w5 W3 : World} {M : Kv (List TVal)} {I : List (Int × List Int)} {a : Ans} {rv sv : Value} {cs : Array Value} (h : Store w B sb mb ix E X d) (hb : Below w.heap.size w w1) (hg : w.heap.size + 1 = g) (h1 : g < w1.heap.size) (hbx : Box w1 g 35 cs)
    (hp : DoPost B sb mb ix E M I n a w1 (.returned (replyV a.code a.there rv sv a.num)) w5) (hW : ((((w5.setCell ⟨g, 0, none⟩ (.int .i64 a.code)).setCell ⟨g, 1, none⟩ (.bool a.there)).setCell ⟨g, 2, none⟩ rv).setCell ⟨g, 3, none⟩ sv).setCell ⟨g, 4, none⟩ (.int .i64 a.num) = W3) :
    DoPost B sb mb ix E M I n a w (.returned (replyV a.code a.there rv sv a.num)) W3 := by
  obtain ⟨v, ix', E', X', e, ha, hs, hM, hI, hk, hx, hnew⟩ := hp
  injection e with e
  subst e
  have hlt := h.lt
  have hbx5 : Box w5 g 35 cs := (hk.block g h1 (by omega) (by omega) (fun e => by have := (h.irow.lt g e.symm).2; omega)).trans hbx
  have hsame := same5 hW
  have hsz := hb.size
  refine ⟨_, ix', E', X', rfl, ?_, store5 hs hbx5 hW, hM, hI, ?_, fun g' hg' => (hx g' hg').imp id (fun h => by omega), fun p hp => (hnew p hp).imp id fun ho => ?_⟩
  · obtain ⟨rv', sv', e, hr, hR⟩ := ha
    exact AnsIs.base ⟨rv', sv', e, own5 hr h1 hW, rows5 hR h1 hW⟩ hsz
  · refine ⟨hsame.1.trans (hk.os.trans hb.os), hsame.2.1.trans (hk.tape.trans hb.tape), hsame.2.2.1.trans (hk.output.trans hb.output), ?_, fun i hi c1 c2 c3 => ?_⟩
    · have := hk.size; omega
    · rw [heap5 (by omega) hW, hk.block i (by omega) c1 c2 c3, hb.block i hi]
  · exact own_baseN (own5 ho h1 hW) hsz

section
variable {B sb mb d : Nat} {ix : Value} {E : Kv (Value × List TVal)} {X : List Ix} {w : World}
set_option maxRecDepth 100000 in
set_option maxHeartbeats 3200000 in
theorem do_k1 (h : Store w B sb mb ix E X d) (C : Nat) (hC : C ≤ w.heap.size) (key to : ByteArray) (rc old low high : List TVal) (id lim sp nd : Int) (fs : List Int) (Ar Ao Af Al Ah : Option Addr) (nr cr no co nf cf nl cl nh ch : Nat)
    (ho : OpIs w C (.agg #[.int .i64 1, .string key, .string to, .slice Ar nr cr, .slice Ao no co, .int .i64 id, .slice Af nf cf, .slice Al nl cl, .slice Ah nh ch, .int .i64 lim, .int .i64 sp, .int .i64 nd]) ⟨1, key, to, rc, old, id, fs, low, high, lim, sp, nd⟩) (hz : checkT ⟨1, key, to, rc, old, id, fs, low, high, lim, sp, nd⟩ = 0) {M : Kv (List TVal)} {I : List (Int × List Int)} {n : Nat} {a : Ans}
    (hm : ∀ w1, Below w.heap.size w w1 → Calls Tryz.prog 22 #[.pointer (some ⟨sb, 0, none⟩), .string key, .slice Ar nr cr] w1 (DoPost B sb mb ix E M I n a w1)) :
    Calls Tryz.prog 9 #[.pointer (some ⟨sb, 0, none⟩), .agg #[.int .i64 1, .string key, .string to, .slice Ar nr cr, .slice Ao no co, .int .i64 id, .slice Af nf cf, .slice Al nl cl, .slice Ah nh ch, .int .i64 lim, .int .i64 sp, .int .i64 nd]] w (DoPost B sb mb ix E M I n a w) := by
  obtain ⟨w00, hw00⟩ : ∃ w00, w.alloc (.cells #[.int .i64 1, .string key, .string to, .slice Ar nr cr, .slice Ao no co, .int .i64 id, .slice Af nf cf, .slice Al nl cl, .slice Ah nh ch, .int .i64 lim, .int .i64 sp, .int .i64 nd] 39) = w00 := ⟨_, rfl⟩
  have hb00 : Below w.heap.size w w00 := hw00 ▸ below_alloc _ _
  have hbo0 : Box w00 w.heap.size 39 #[.int .i64 1, .string key, .string to, .slice Ar nr cr, .slice Ao no co, .int .i64 id, .slice Af nf cf, .slice Al nl cl, .slice Ah nh ch, .int .i64 lim, .int .i64 sp, .int .i64 nd] := hw00 ▸ Box.made _ _ _
  have hs00 : w00.heap.size = w.heap.size + 1 := by rw [← hw00]; simp
  obtain ⟨w0, hw0⟩ : ∃ w0, w00.alloc (.cells #[.int .i64 0, .bool false, .slice none 0 0, .slice none 0 0, .int .i64 0] 35) = w0 := ⟨_, rfl⟩
  have hb0 : Below w.heap.size w w0 := Below.then hb00 (hw0 ▸ below_alloc _ _)
  have hbx : Box w0 (w.heap.size + 1) 35 #[.int .i64 0, .bool false, .slice none 0 0, .slice none 0 0, .int .i64 0] := hw0 ▸ made_at hs00 _ _
  have hbo : Box w0 w.heap.size 39 #[.int .i64 1, .string key, .string to, .slice Ar nr cr, .slice Ao no co, .int .i64 id, .slice Af nf cf, .slice Al nl cl, .slice Ah nh ch, .int .i64 lim, .int .i64 sp, .int .i64 nd] := hw0 ▸ hbo0.alloc _
  have hsz : w0.heap.size = w.heap.size + 1 + 1 := by rw [← hw0]; simp [hs00]
  have hchk := plainCheck_any _ _ C w0 (Nat.le_trans hC hb0.size) (ho.belowOf hb0 hC)
  have e0 := hbo.cell 0; have e1 := hbo.cell 1; have e2 := hbo.cell 2; have e3 := hbo.cell 3; have e4 := hbo.cell 4; have e5 := hbo.cell 5
  have e6 := hbo.cell 6; have e7 := hbo.cell 7; have e8 := hbo.cell 8; have e9 := hbo.cell 9; have e10 := hbo.cell 10; have e11 := hbo.cell 11
  have H := Lib.hid h
  have Hbx := Lib.hid hbx
  have Hbo := Lib.hid hbo
  have Hb0 := Lib.hid hb0
  have Hsz := Lib.hid hsz
  have Hchk := Lib.hid hchk
  clear hbo hbo0 hb00 hb0 hbx hsz hchk h ho
  have Hm := Lib.hid hm
  clear hm
  rw [hz] at Hchk
  go_enter Tryz.func9, Tryz.ntmps9
  go_wp2_with fail
  refine Hchk.out.mono ?_
  rintro e w1 ⟨rfl, hb1⟩
  have hbo1 := Hbo.out.below hb1 Hbo.out.lt
  have a0 := hbo1.cell 0
  have a1 := hbo1.cell 1
  have a3 := hbo1.cell 3
  have Hb1 := Lib.hid hb1
  have Hbw := Lib.hid (Below.trans Hb0.out (hb1.mono (by rw [Hsz.out]; omega)))
  have Hbx1 := Lib.hid (Hbx.out.below hb1 Hbx.out.lt)
  have Hlt1 : Hid (w.heap.size + 1 < w1.heap.size) := Lib.hid (by have := hb1.size; have := Hsz.out; omega)
  clear hbo1 hb1
  go_wp2_with fail
  refine (Hm.out _ Hbw.out).mono ?_
  rintro e w5 hp
  have hp0 := hp
  obtain ⟨v, ix', E', X', rfl, ⟨rv, sv, rfl, hr, hR⟩, -, -, -, hk, -, -⟩ := hp0
  obtain ⟨Ax, cx, rfl, -⟩ := own_sliceN hr
  obtain ⟨Ay, cy, rfl⟩ := hR.slice
  obtain ⟨ac, at', ar, as', an⟩ := a
  have hbx5 := (show Box w5 _ _ _ from (hk.block _ Hlt1.out (by have := H.out.lt.1; omega) (by have := H.out.lt.2; omega) (fun e => by have := (H.out.irow.lt _ e.symm).2; omega)).trans Hbx1.out)
  have Hp := Lib.hid hp
  clear hp hr hR hk
  unfold replyV
  obtain ⟨r0, r1, r2, r3, r4, k0, k1, k2, k3, k4⟩ := box5 hbx5
  obtain ⟨W3, hW3⟩ : ∃ W3, ((((w5.setCell ⟨w.heap.size + 1, 0, none⟩ (.int .i64 ac)).setCell ⟨w.heap.size + 1, 1, none⟩ (.bool at')).setCell ⟨w.heap.size + 1, 2, none⟩ (.slice Ax ar.length cx)).setCell ⟨w.heap.size + 1, 3, none⟩ (.slice Ay as'.length cy)).setCell ⟨w.heap.size + 1, 4, none⟩ (.int .i64 an) = W3 := ⟨_, rfl⟩
  obtain ⟨p0, p1, p2, p3, p4, -⟩ := box5 (box5_store hbx5 hW3)
  have Hend := Lib.hid (do_end H.out Hbw.out rfl Hlt1.out Hbx1.out Hp.out hW3)
  clear hbx5
  go_wp2
  refine bodyPost_ret (v := replyV ac at' (.slice Ax ar.length cx) (.slice Ay as'.length cy) an) ?_ rfl Hend.out
  simp [results, Tryz.results9, go_sem, replyV, p0, p1, p2, p3, p4]
set_option maxRecDepth 100000 in
set_option maxHeartbeats 3200000 in
theorem do_k2 (h : Store w B sb mb ix E X d) (C : Nat) (hC : C ≤ w.heap.size) (key to : ByteArray) (rc old low high : List TVal) (id lim sp nd : Int) (fs : List Int) (Ar Ao Af Al Ah : Option Addr) (nr cr no co nf cf nl cl nh ch : Nat)
    (ho : OpIs w C (.agg #[.int .i64 2, .string key, .string to, .slice Ar nr cr, .slice Ao no co, .int .i64 id, .slice Af nf cf, .slice Al nl cl, .slice Ah nh ch, .int .i64 lim, .int .i64 sp, .int .i64 nd]) ⟨2, key, to, rc, old, id, fs, low, high, lim, sp, nd⟩) (hz : checkT ⟨2, key, to, rc, old, id, fs, low, high, lim, sp, nd⟩ = 0) {M : Kv (List TVal)} {I : List (Int × List Int)} {n : Nat} {a : Ans}
    (hm : ∀ w1, Below w.heap.size w w1 → Calls Tryz.prog 23 #[.pointer (some ⟨sb, 0, none⟩), .string key] w1 (DoPost B sb mb ix E M I n a w1)) :
    Calls Tryz.prog 9 #[.pointer (some ⟨sb, 0, none⟩), .agg #[.int .i64 2, .string key, .string to, .slice Ar nr cr, .slice Ao no co, .int .i64 id, .slice Af nf cf, .slice Al nl cl, .slice Ah nh ch, .int .i64 lim, .int .i64 sp, .int .i64 nd]] w (DoPost B sb mb ix E M I n a w) := by
  obtain ⟨w00, hw00⟩ : ∃ w00, w.alloc (.cells #[.int .i64 2, .string key, .string to, .slice Ar nr cr, .slice Ao no co, .int .i64 id, .slice Af nf cf, .slice Al nl cl, .slice Ah nh ch, .int .i64 lim, .int .i64 sp, .int .i64 nd] 39) = w00 := ⟨_, rfl⟩
  have hb00 : Below w.heap.size w w00 := hw00 ▸ below_alloc _ _
  have hbo0 : Box w00 w.heap.size 39 #[.int .i64 2, .string key, .string to, .slice Ar nr cr, .slice Ao no co, .int .i64 id, .slice Af nf cf, .slice Al nl cl, .slice Ah nh ch, .int .i64 lim, .int .i64 sp, .int .i64 nd] := hw00 ▸ Box.made _ _ _
  have hs00 : w00.heap.size = w.heap.size + 1 := by rw [← hw00]; simp
  obtain ⟨w0, hw0⟩ : ∃ w0, w00.alloc (.cells #[.int .i64 0, .bool false, .slice none 0 0, .slice none 0 0, .int .i64 0] 35) = w0 := ⟨_, rfl⟩
  have hb0 : Below w.heap.size w w0 := Below.then hb00 (hw0 ▸ below_alloc _ _)
  have hbx : Box w0 (w.heap.size + 1) 35 #[.int .i64 0, .bool false, .slice none 0 0, .slice none 0 0, .int .i64 0] := hw0 ▸ made_at hs00 _ _
  have hbo : Box w0 w.heap.size 39 #[.int .i64 2, .string key, .string to, .slice Ar nr cr, .slice Ao no co, .int .i64 id, .slice Af nf cf, .slice Al nl cl, .slice Ah nh ch, .int .i64 lim, .int .i64 sp, .int .i64 nd] := hw0 ▸ hbo0.alloc _
  have hsz : w0.heap.size = w.heap.size + 1 + 1 := by rw [← hw0]; simp [hs00]
  have hchk := plainCheck_any _ _ C w0 (Nat.le_trans hC hb0.size) (ho.belowOf hb0 hC)
  have e0 := hbo.cell 0; have e1 := hbo.cell 1; have e2 := hbo.cell 2; have e3 := hbo.cell 3; have e4 := hbo.cell 4; have e5 := hbo.cell 5
  have e6 := hbo.cell 6; have e7 := hbo.cell 7; have e8 := hbo.cell 8; have e9 := hbo.cell 9; have e10 := hbo.cell 10; have e11 := hbo.cell 11
  have H := Lib.hid h
  have Hbx := Lib.hid hbx
  have Hbo := Lib.hid hbo
  have Hb0 := Lib.hid hb0
  have Hsz := Lib.hid hsz
  have Hchk := Lib.hid hchk
  clear hbo hbo0 hb00 hb0 hbx hsz hchk h ho
  have Hm := Lib.hid hm
  clear hm
  rw [hz] at Hchk
  go_enter Tryz.func9, Tryz.ntmps9
  go_wp2_with fail
  refine Hchk.out.mono ?_
  rintro e w1 ⟨rfl, hb1⟩
  have hbo1 := Hbo.out.below hb1 Hbo.out.lt
  have a0 := hbo1.cell 0
  have a1 := hbo1.cell 1
  have Hb1 := Lib.hid hb1
  have Hbw := Lib.hid (Below.trans Hb0.out (hb1.mono (by rw [Hsz.out]; omega)))
  have Hbx1 := Lib.hid (Hbx.out.below hb1 Hbx.out.lt)
  have Hlt1 : Hid (w.heap.size + 1 < w1.heap.size) := Lib.hid (by have := hb1.size; have := Hsz.out; omega)
  clear hbo1 hb1
  go_wp2_with fail
  refine (Hm.out _ Hbw.out).mono ?_
  rintro e w5 hp
  have hp0 := hp
  obtain ⟨v, ix', E', X', rfl, ⟨rv, sv, rfl, hr, hR⟩, -, -, -, hk, -, -⟩ := hp0
  obtain ⟨Ax, cx, rfl, -⟩ := own_sliceN hr
  obtain ⟨Ay, cy, rfl⟩ := hR.slice
  obtain ⟨ac, at', ar, as', an⟩ := a
  have hbx5 := (show Box w5 _ _ _ from (hk.block _ Hlt1.out (by have := H.out.lt.1; omega) (by have := H.out.lt.2; omega) (fun e => by have := (H.out.irow.lt _ e.symm).2; omega)).trans Hbx1.out)
  have Hp := Lib.hid hp
  clear hp hr hR hk
  unfold replyV
  obtain ⟨r0, r1, r2, r3, r4, k0, k1, k2, k3, k4⟩ := box5 hbx5
  obtain ⟨W3, hW3⟩ : ∃ W3, ((((w5.setCell ⟨w.heap.size + 1, 0, none⟩ (.int .i64 ac)).setCell ⟨w.heap.size + 1, 1, none⟩ (.bool at')).setCell ⟨w.heap.size + 1, 2, none⟩ (.slice Ax ar.length cx)).setCell ⟨w.heap.size + 1, 3, none⟩ (.slice Ay as'.length cy)).setCell ⟨w.heap.size + 1, 4, none⟩ (.int .i64 an) = W3 := ⟨_, rfl⟩
  obtain ⟨p0, p1, p2, p3, p4, -⟩ := box5 (box5_store hbx5 hW3)
  have Hend := Lib.hid (do_end H.out Hbw.out rfl Hlt1.out Hbx1.out Hp.out hW3)
  clear hbx5
  go_wp2
  refine bodyPost_ret (v := replyV ac at' (.slice Ax ar.length cx) (.slice Ay as'.length cy) an) ?_ rfl Hend.out
  simp [results, Tryz.results9, go_sem, replyV, p0, p1, p2, p3, p4]
set_option maxRecDepth 100000 in
set_option maxHeartbeats 3200000 in
theorem do_k3 (h : Store w B sb mb ix E X d) (C : Nat) (hC : C ≤ w.heap.size) (key to : ByteArray) (rc old low high : List TVal) (id lim sp nd : Int) (fs : List Int) (Ar Ao Af Al Ah : Option Addr) (nr cr no co nf cf nl cl nh ch : Nat)
    (ho : OpIs w C (.agg #[.int .i64 3, .string key, .string to, .slice Ar nr cr, .slice Ao no co, .int .i64 id, .slice Af nf cf, .slice Al nl cl, .slice Ah nh ch, .int .i64 lim, .int .i64 sp, .int .i64 nd]) ⟨3, key, to, rc, old, id, fs, low, high, lim, sp, nd⟩) (hz : checkT ⟨3, key, to, rc, old, id, fs, low, high, lim, sp, nd⟩ = 0) {M : Kv (List TVal)} {I : List (Int × List Int)} {n : Nat} {a : Ans}
    (hm : ∀ w1, Below w.heap.size w w1 → Calls Tryz.prog 24 #[.pointer (some ⟨sb, 0, none⟩), .string key] w1 (DoPost B sb mb ix E M I n a w1)) :
    Calls Tryz.prog 9 #[.pointer (some ⟨sb, 0, none⟩), .agg #[.int .i64 3, .string key, .string to, .slice Ar nr cr, .slice Ao no co, .int .i64 id, .slice Af nf cf, .slice Al nl cl, .slice Ah nh ch, .int .i64 lim, .int .i64 sp, .int .i64 nd]] w (DoPost B sb mb ix E M I n a w) := by
  obtain ⟨w00, hw00⟩ : ∃ w00, w.alloc (.cells #[.int .i64 3, .string key, .string to, .slice Ar nr cr, .slice Ao no co, .int .i64 id, .slice Af nf cf, .slice Al nl cl, .slice Ah nh ch, .int .i64 lim, .int .i64 sp, .int .i64 nd] 39) = w00 := ⟨_, rfl⟩
  have hb00 : Below w.heap.size w w00 := hw00 ▸ below_alloc _ _
  have hbo0 : Box w00 w.heap.size 39 #[.int .i64 3, .string key, .string to, .slice Ar nr cr, .slice Ao no co, .int .i64 id, .slice Af nf cf, .slice Al nl cl, .slice Ah nh ch, .int .i64 lim, .int .i64 sp, .int .i64 nd] := hw00 ▸ Box.made _ _ _
  have hs00 : w00.heap.size = w.heap.size + 1 := by rw [← hw00]; simp
  obtain ⟨w0, hw0⟩ : ∃ w0, w00.alloc (.cells #[.int .i64 0, .bool false, .slice none 0 0, .slice none 0 0, .int .i64 0] 35) = w0 := ⟨_, rfl⟩
  have hb0 : Below w.heap.size w w0 := Below.then hb00 (hw0 ▸ below_alloc _ _)
  have hbx : Box w0 (w.heap.size + 1) 35 #[.int .i64 0, .bool false, .slice none 0 0, .slice none 0 0, .int .i64 0] := hw0 ▸ made_at hs00 _ _
  have hbo : Box w0 w.heap.size 39 #[.int .i64 3, .string key, .string to, .slice Ar nr cr, .slice Ao no co, .int .i64 id, .slice Af nf cf, .slice Al nl cl, .slice Ah nh ch, .int .i64 lim, .int .i64 sp, .int .i64 nd] := hw0 ▸ hbo0.alloc _
  have hsz : w0.heap.size = w.heap.size + 1 + 1 := by rw [← hw0]; simp [hs00]
  have hchk := plainCheck_any _ _ C w0 (Nat.le_trans hC hb0.size) (ho.belowOf hb0 hC)
  have e0 := hbo.cell 0; have e1 := hbo.cell 1; have e2 := hbo.cell 2; have e3 := hbo.cell 3; have e4 := hbo.cell 4; have e5 := hbo.cell 5
  have e6 := hbo.cell 6; have e7 := hbo.cell 7; have e8 := hbo.cell 8; have e9 := hbo.cell 9; have e10 := hbo.cell 10; have e11 := hbo.cell 11
  have H := Lib.hid h
  have Hbx := Lib.hid hbx
  have Hbo := Lib.hid hbo
  have Hb0 := Lib.hid hb0
  have Hsz := Lib.hid hsz
  have Hchk := Lib.hid hchk
  clear hbo hbo0 hb00 hb0 hbx hsz hchk h ho
  have Hm := Lib.hid hm
  clear hm
  rw [hz] at Hchk
  go_enter Tryz.func9, Tryz.ntmps9
  go_wp2_with fail
  refine Hchk.out.mono ?_
  rintro e w1 ⟨rfl, hb1⟩
  have hbo1 := Hbo.out.below hb1 Hbo.out.lt
  have a0 := hbo1.cell 0
  have a1 := hbo1.cell 1
  have Hb1 := Lib.hid hb1
  have Hbw := Lib.hid (Below.trans Hb0.out (hb1.mono (by rw [Hsz.out]; omega)))
  have Hbx1 := Lib.hid (Hbx.out.below hb1 Hbx.out.lt)
  have Hlt1 : Hid (w.heap.size + 1 < w1.heap.size) := Lib.hid (by have := hb1.size; have := Hsz.out; omega)
  clear hbo1 hb1
  go_wp2_with fail
  refine (Hm.out _ Hbw.out).mono ?_
  rintro e w5 hp
  have hp0 := hp
  obtain ⟨v, ix', E', X', rfl, ⟨rv, sv, rfl, hr, hR⟩, -, -, -, hk, -, -⟩ := hp0
  obtain ⟨Ax, cx, rfl, -⟩ := own_sliceN hr
  obtain ⟨Ay, cy, rfl⟩ := hR.slice
  obtain ⟨ac, at', ar, as', an⟩ := a
  have hbx5 := (show Box w5 _ _ _ from (hk.block _ Hlt1.out (by have := H.out.lt.1; omega) (by have := H.out.lt.2; omega) (fun e => by have := (H.out.irow.lt _ e.symm).2; omega)).trans Hbx1.out)
  have Hp := Lib.hid hp
  clear hp hr hR hk
  unfold replyV
  obtain ⟨r0, r1, r2, r3, r4, k0, k1, k2, k3, k4⟩ := box5 hbx5
  obtain ⟨W3, hW3⟩ : ∃ W3, ((((w5.setCell ⟨w.heap.size + 1, 0, none⟩ (.int .i64 ac)).setCell ⟨w.heap.size + 1, 1, none⟩ (.bool at')).setCell ⟨w.heap.size + 1, 2, none⟩ (.slice Ax ar.length cx)).setCell ⟨w.heap.size + 1, 3, none⟩ (.slice Ay as'.length cy)).setCell ⟨w.heap.size + 1, 4, none⟩ (.int .i64 an) = W3 := ⟨_, rfl⟩
  obtain ⟨p0, p1, p2, p3, p4, -⟩ := box5 (box5_store hbx5 hW3)
  have Hend := Lib.hid (do_end H.out Hbw.out rfl Hlt1.out Hbx1.out Hp.out hW3)
  clear hbx5
  go_wp2
  refine bodyPost_ret (v := replyV ac at' (.slice Ax ar.length cx) (.slice Ay as'.length cy) an) ?_ rfl Hend.out
  simp [results, Tryz.results9, go_sem, replyV, p0, p1, p2, p3, p4]
set_option maxRecDepth 100000 in
set_option maxHeartbeats 3200000 in
theorem do_k4 (h : Store w B sb mb ix E X d) (C : Nat) (hC : C ≤ w.heap.size) (key to : ByteArray) (rc old low high : List TVal) (id lim sp nd : Int) (fs : List Int) (Ar Ao Af Al Ah : Option Addr) (nr cr no co nf cf nl cl nh ch : Nat)
    (ho : OpIs w C (.agg #[.int .i64 4, .string key, .string to, .slice Ar nr cr, .slice Ao no co, .int .i64 id, .slice Af nf cf, .slice Al nl cl, .slice Ah nh ch, .int .i64 lim, .int .i64 sp, .int .i64 nd]) ⟨4, key, to, rc, old, id, fs, low, high, lim, sp, nd⟩) (hz : checkT ⟨4, key, to, rc, old, id, fs, low, high, lim, sp, nd⟩ = 0) {M : Kv (List TVal)} {I : List (Int × List Int)} {n : Nat} {a : Ans}
    (hm : ∀ w1, Below w.heap.size w w1 → Calls Tryz.prog 25 #[.pointer (some ⟨sb, 0, none⟩), .string key, .slice Ao no co, .slice Ar nr cr] w1 (DoPost B sb mb ix E M I n a w1)) :
    Calls Tryz.prog 9 #[.pointer (some ⟨sb, 0, none⟩), .agg #[.int .i64 4, .string key, .string to, .slice Ar nr cr, .slice Ao no co, .int .i64 id, .slice Af nf cf, .slice Al nl cl, .slice Ah nh ch, .int .i64 lim, .int .i64 sp, .int .i64 nd]] w (DoPost B sb mb ix E M I n a w) := by
  obtain ⟨w00, hw00⟩ : ∃ w00, w.alloc (.cells #[.int .i64 4, .string key, .string to, .slice Ar nr cr, .slice Ao no co, .int .i64 id, .slice Af nf cf, .slice Al nl cl, .slice Ah nh ch, .int .i64 lim, .int .i64 sp, .int .i64 nd] 39) = w00 := ⟨_, rfl⟩
  have hb00 : Below w.heap.size w w00 := hw00 ▸ below_alloc _ _
  have hbo0 : Box w00 w.heap.size 39 #[.int .i64 4, .string key, .string to, .slice Ar nr cr, .slice Ao no co, .int .i64 id, .slice Af nf cf, .slice Al nl cl, .slice Ah nh ch, .int .i64 lim, .int .i64 sp, .int .i64 nd] := hw00 ▸ Box.made _ _ _
  have hs00 : w00.heap.size = w.heap.size + 1 := by rw [← hw00]; simp
  obtain ⟨w0, hw0⟩ : ∃ w0, w00.alloc (.cells #[.int .i64 0, .bool false, .slice none 0 0, .slice none 0 0, .int .i64 0] 35) = w0 := ⟨_, rfl⟩
  have hb0 : Below w.heap.size w w0 := Below.then hb00 (hw0 ▸ below_alloc _ _)
  have hbx : Box w0 (w.heap.size + 1) 35 #[.int .i64 0, .bool false, .slice none 0 0, .slice none 0 0, .int .i64 0] := hw0 ▸ made_at hs00 _ _
  have hbo : Box w0 w.heap.size 39 #[.int .i64 4, .string key, .string to, .slice Ar nr cr, .slice Ao no co, .int .i64 id, .slice Af nf cf, .slice Al nl cl, .slice Ah nh ch, .int .i64 lim, .int .i64 sp, .int .i64 nd] := hw0 ▸ hbo0.alloc _
  have hsz : w0.heap.size = w.heap.size + 1 + 1 := by rw [← hw0]; simp [hs00]
  have hchk := plainCheck_any _ _ C w0 (Nat.le_trans hC hb0.size) (ho.belowOf hb0 hC)
  have e0 := hbo.cell 0; have e1 := hbo.cell 1; have e2 := hbo.cell 2; have e3 := hbo.cell 3; have e4 := hbo.cell 4; have e5 := hbo.cell 5
  have e6 := hbo.cell 6; have e7 := hbo.cell 7; have e8 := hbo.cell 8; have e9 := hbo.cell 9; have e10 := hbo.cell 10; have e11 := hbo.cell 11
  have H := Lib.hid h
  have Hbx := Lib.hid hbx
  have Hbo := Lib.hid hbo
  have Hb0 := Lib.hid hb0
  have Hsz := Lib.hid hsz
  have Hchk := Lib.hid hchk
  clear hbo hbo0 hb00 hb0 hbx hsz hchk h ho
  have Hm := Lib.hid hm
  clear hm
  rw [hz] at Hchk
  go_enter Tryz.func9, Tryz.ntmps9
  go_wp2_with fail
  refine Hchk.out.mono ?_
  rintro e w1 ⟨rfl, hb1⟩
  have hbo1 := Hbo.out.below hb1 Hbo.out.lt
  have a0 := hbo1.cell 0
  have a1 := hbo1.cell 1
  have a3 := hbo1.cell 3
  have a4 := hbo1.cell 4
  have Hb1 := Lib.hid hb1
  have Hbw := Lib.hid (Below.trans Hb0.out (hb1.mono (by rw [Hsz.out]; omega)))
  have Hbx1 := Lib.hid (Hbx.out.below hb1 Hbx.out.lt)
  have Hlt1 : Hid (w.heap.size + 1 < w1.heap.size) := Lib.hid (by have := hb1.size; have := Hsz.out; omega)
  clear hbo1 hb1
  go_wp2_with fail
  refine (Hm.out _ Hbw.out).mono ?_
  rintro e w5 hp
  have hp0 := hp
  obtain ⟨v, ix', E', X', rfl, ⟨rv, sv, rfl, hr, hR⟩, -, -, -, hk, -, -⟩ := hp0
  obtain ⟨Ax, cx, rfl, -⟩ := own_sliceN hr
  obtain ⟨Ay, cy, rfl⟩ := hR.slice
  obtain ⟨ac, at', ar, as', an⟩ := a
  have hbx5 := (show Box w5 _ _ _ from (hk.block _ Hlt1.out (by have := H.out.lt.1; omega) (by have := H.out.lt.2; omega) (fun e => by have := (H.out.irow.lt _ e.symm).2; omega)).trans Hbx1.out)
  have Hp := Lib.hid hp
  clear hp hr hR hk
  unfold replyV
  obtain ⟨r0, r1, r2, r3, r4, k0, k1, k2, k3, k4⟩ := box5 hbx5
  obtain ⟨W3, hW3⟩ : ∃ W3, ((((w5.setCell ⟨w.heap.size + 1, 0, none⟩ (.int .i64 ac)).setCell ⟨w.heap.size + 1, 1, none⟩ (.bool at')).setCell ⟨w.heap.size + 1, 2, none⟩ (.slice Ax ar.length cx)).setCell ⟨w.heap.size + 1, 3, none⟩ (.slice Ay as'.length cy)).setCell ⟨w.heap.size + 1, 4, none⟩ (.int .i64 an) = W3 := ⟨_, rfl⟩
  obtain ⟨p0, p1, p2, p3, p4, -⟩ := box5 (box5_store hbx5 hW3)
  have Hend := Lib.hid (do_end H.out Hbw.out rfl Hlt1.out Hbx1.out Hp.out hW3)
  clear hbx5
  go_wp2
  refine bodyPost_ret (v := replyV ac at' (.slice Ax ar.length cx) (.slice Ay as'.length cy) an) ?_ rfl Hend.out
  simp [results, Tryz.results9, go_sem, replyV, p0, p1, p2, p3, p4]
set_option maxRecDepth 100000 in
set_option maxHeartbeats 3200000 in
theorem do_k5 (h : Store w B sb mb ix E X d) (C : Nat) (hC : C ≤ w.heap.size) (key to : ByteArray) (rc old low high : List TVal) (id lim sp nd : Int) (fs : List Int) (Ar Ao Af Al Ah : Option Addr) (nr cr no co nf cf nl cl nh ch : Nat)
    (ho : OpIs w C (.agg #[.int .i64 5, .string key, .string to, .slice Ar nr cr, .slice Ao no co, .int .i64 id, .slice Af nf cf, .slice Al nl cl, .slice Ah nh ch, .int .i64 lim, .int .i64 sp, .int .i64 nd]) ⟨5, key, to, rc, old, id, fs, low, high, lim, sp, nd⟩) (hz : checkT ⟨5, key, to, rc, old, id, fs, low, high, lim, sp, nd⟩ = 0) {M : Kv (List TVal)} {I : List (Int × List Int)} {n : Nat} {a : Ans}
    (hm : ∀ w1, Below w.heap.size w w1 → Calls Tryz.prog 26 #[.pointer (some ⟨sb, 0, none⟩), .string key, .string to, .int .i64 lim] w1 (DoPost B sb mb ix E M I n a w1)) :
    Calls Tryz.prog 9 #[.pointer (some ⟨sb, 0, none⟩), .agg #[.int .i64 5, .string key, .string to, .slice Ar nr cr, .slice Ao no co, .int .i64 id, .slice Af nf cf, .slice Al nl cl, .slice Ah nh ch, .int .i64 lim, .int .i64 sp, .int .i64 nd]] w (DoPost B sb mb ix E M I n a w) := by
  obtain ⟨w00, hw00⟩ : ∃ w00, w.alloc (.cells #[.int .i64 5, .string key, .string to, .slice Ar nr cr, .slice Ao no co, .int .i64 id, .slice Af nf cf, .slice Al nl cl, .slice Ah nh ch, .int .i64 lim, .int .i64 sp, .int .i64 nd] 39) = w00 := ⟨_, rfl⟩
  have hb00 : Below w.heap.size w w00 := hw00 ▸ below_alloc _ _
  have hbo0 : Box w00 w.heap.size 39 #[.int .i64 5, .string key, .string to, .slice Ar nr cr, .slice Ao no co, .int .i64 id, .slice Af nf cf, .slice Al nl cl, .slice Ah nh ch, .int .i64 lim, .int .i64 sp, .int .i64 nd] := hw00 ▸ Box.made _ _ _
  have hs00 : w00.heap.size = w.heap.size + 1 := by rw [← hw00]; simp
  obtain ⟨w0, hw0⟩ : ∃ w0, w00.alloc (.cells #[.int .i64 0, .bool false, .slice none 0 0, .slice none 0 0, .int .i64 0] 35) = w0 := ⟨_, rfl⟩
  have hb0 : Below w.heap.size w w0 := Below.then hb00 (hw0 ▸ below_alloc _ _)
  have hbx : Box w0 (w.heap.size + 1) 35 #[.int .i64 0, .bool false, .slice none 0 0, .slice none 0 0, .int .i64 0] := hw0 ▸ made_at hs00 _ _
  have hbo : Box w0 w.heap.size 39 #[.int .i64 5, .string key, .string to, .slice Ar nr cr, .slice Ao no co, .int .i64 id, .slice Af nf cf, .slice Al nl cl, .slice Ah nh ch, .int .i64 lim, .int .i64 sp, .int .i64 nd] := hw0 ▸ hbo0.alloc _
  have hsz : w0.heap.size = w.heap.size + 1 + 1 := by rw [← hw0]; simp [hs00]
  have hchk := plainCheck_any _ _ C w0 (Nat.le_trans hC hb0.size) (ho.belowOf hb0 hC)
  have e0 := hbo.cell 0; have e1 := hbo.cell 1; have e2 := hbo.cell 2; have e3 := hbo.cell 3; have e4 := hbo.cell 4; have e5 := hbo.cell 5
  have e6 := hbo.cell 6; have e7 := hbo.cell 7; have e8 := hbo.cell 8; have e9 := hbo.cell 9; have e10 := hbo.cell 10; have e11 := hbo.cell 11
  have H := Lib.hid h
  have Hbx := Lib.hid hbx
  have Hbo := Lib.hid hbo
  have Hb0 := Lib.hid hb0
  have Hsz := Lib.hid hsz
  have Hchk := Lib.hid hchk
  clear hbo hbo0 hb00 hb0 hbx hsz hchk h ho
  have Hm := Lib.hid hm
  clear hm
  rw [hz] at Hchk
  go_enter Tryz.func9, Tryz.ntmps9
  go_wp2_with fail
  refine Hchk.out.mono ?_
  rintro e w1 ⟨rfl, hb1⟩
  have hbo1 := Hbo.out.below hb1 Hbo.out.lt
  have a0 := hbo1.cell 0
  have a1 := hbo1.cell 1
  have a2 := hbo1.cell 2
  have a9 := hbo1.cell 9
  have Hb1 := Lib.hid hb1
  have Hbw := Lib.hid (Below.trans Hb0.out (hb1.mono (by rw [Hsz.out]; omega)))
  have Hbx1 := Lib.hid (Hbx.out.below hb1 Hbx.out.lt)
  have Hlt1 : Hid (w.heap.size + 1 < w1.heap.size) := Lib.hid (by have := hb1.size; have := Hsz.out; omega)
  clear hbo1 hb1
  go_wp2_with fail
  refine (Hm.out _ Hbw.out).mono ?_
  rintro e w5 hp
  have hp0 := hp
  obtain ⟨v, ix', E', X', rfl, ⟨rv, sv, rfl, hr, hR⟩, -, -, -, hk, -, -⟩ := hp0
  obtain ⟨Ax, cx, rfl, -⟩ := own_sliceN hr
  obtain ⟨Ay, cy, rfl⟩ := hR.slice
  obtain ⟨ac, at', ar, as', an⟩ := a
  have hbx5 := (show Box w5 _ _ _ from (hk.block _ Hlt1.out (by have := H.out.lt.1; omega) (by have := H.out.lt.2; omega) (fun e => by have := (H.out.irow.lt _ e.symm).2; omega)).trans Hbx1.out)
  have Hp := Lib.hid hp
  clear hp hr hR hk
  unfold replyV
  obtain ⟨r0, r1, r2, r3, r4, k0, k1, k2, k3, k4⟩ := box5 hbx5
  obtain ⟨W3, hW3⟩ : ∃ W3, ((((w5.setCell ⟨w.heap.size + 1, 0, none⟩ (.int .i64 ac)).setCell ⟨w.heap.size + 1, 1, none⟩ (.bool at')).setCell ⟨w.heap.size + 1, 2, none⟩ (.slice Ax ar.length cx)).setCell ⟨w.heap.size + 1, 3, none⟩ (.slice Ay as'.length cy)).setCell ⟨w.heap.size + 1, 4, none⟩ (.int .i64 an) = W3 := ⟨_, rfl⟩
  obtain ⟨p0, p1, p2, p3, p4, -⟩ := box5 (box5_store hbx5 hW3)
  have Hend := Lib.hid (do_end H.out Hbw.out rfl Hlt1.out Hbx1.out Hp.out hW3)
  clear hbx5
  go_wp2
  refine bodyPost_ret (v := replyV ac at' (.slice Ax ar.length cx) (.slice Ay as'.length cy) an) ?_ rfl Hend.out
  simp [results, Tryz.results9, go_sem, replyV, p0, p1, p2, p3, p4]
set_option maxRecDepth 100000 in
set_option maxHeartbeats 3200000 in
theorem do_k6 (h : Store w B sb mb ix E X d) (C : Nat) (hC : C ≤ w.heap.size) (key to : ByteArray) (rc old low high : List TVal) (id lim sp nd : Int) (fs : List Int) (Ar Ao Af Al Ah : Option Addr) (nr cr no co nf cf nl cl nh ch : Nat)
    (ho : OpIs w C (.agg #[.int .i64 6, .string key, .string to, .slice Ar nr cr, .slice Ao no co, .int .i64 id, .slice Af nf cf, .slice Al nl cl, .slice Ah nh ch, .int .i64 lim, .int .i64 sp, .int .i64 nd]) ⟨6, key, to, rc, old, id, fs, low, high, lim, sp, nd⟩) (hz : checkT ⟨6, key, to, rc, old, id, fs, low, high, lim, sp, nd⟩ = 0) {M : Kv (List TVal)} {I : List (Int × List Int)} {n : Nat} {a : Ans}
    (hm : ∀ w1, Below w.heap.size w w1 → Calls Tryz.prog 27 #[.pointer (some ⟨sb, 0, none⟩), .int .i64 id, .slice Al nl cl, .slice Ah nh ch, .int .i64 lim] w1 (DoPost B sb mb ix E M I n a w1)) :
    Calls Tryz.prog 9 #[.pointer (some ⟨sb, 0, none⟩), .agg #[.int .i64 6, .string key, .string to, .slice Ar nr cr, .slice Ao no co, .int .i64 id, .slice Af nf cf, .slice Al nl cl, .slice Ah nh ch, .int .i64 lim, .int .i64 sp, .int .i64 nd]] w (DoPost B sb mb ix E M I n a w) := by
  obtain ⟨w00, hw00⟩ : ∃ w00, w.alloc (.cells #[.int .i64 6, .string key, .string to, .slice Ar nr cr, .slice Ao no co, .int .i64 id, .slice Af nf cf, .slice Al nl cl, .slice Ah nh ch, .int .i64 lim, .int .i64 sp, .int .i64 nd] 39) = w00 := ⟨_, rfl⟩
  have hb00 : Below w.heap.size w w00 := hw00 ▸ below_alloc _ _
  have hbo0 : Box w00 w.heap.size 39 #[.int .i64 6, .string key, .string to, .slice Ar nr cr, .slice Ao no co, .int .i64 id, .slice Af nf cf, .slice Al nl cl, .slice Ah nh ch, .int .i64 lim, .int .i64 sp, .int .i64 nd] := hw00 ▸ Box.made _ _ _
  have hs00 : w00.heap.size = w.heap.size + 1 := by rw [← hw00]; simp
  obtain ⟨w0, hw0⟩ : ∃ w0, w00.alloc (.cells #[.int .i64 0, .bool false, .slice none 0 0, .slice none 0 0, .int .i64 0] 35) = w0 := ⟨_, rfl⟩
  have hb0 : Below w.heap.size w w0 := Below.then hb00 (hw0 ▸ below_alloc _ _)
  have hbx : Box w0 (w.heap.size + 1) 35 #[.int .i64 0, .bool false, .slice none 0 0, .slice none 0 0, .int .i64 0] := hw0 ▸ made_at hs00 _ _
  have hbo : Box w0 w.heap.size 39 #[.int .i64 6, .string key, .string to, .slice Ar nr cr, .slice Ao no co, .int .i64 id, .slice Af nf cf, .slice Al nl cl, .slice Ah nh ch, .int .i64 lim, .int .i64 sp, .int .i64 nd] := hw0 ▸ hbo0.alloc _
  have hsz : w0.heap.size = w.heap.size + 1 + 1 := by rw [← hw0]; simp [hs00]
  have hchk := plainCheck_any _ _ C w0 (Nat.le_trans hC hb0.size) (ho.belowOf hb0 hC)
  have e0 := hbo.cell 0; have e1 := hbo.cell 1; have e2 := hbo.cell 2; have e3 := hbo.cell 3; have e4 := hbo.cell 4; have e5 := hbo.cell 5
  have e6 := hbo.cell 6; have e7 := hbo.cell 7; have e8 := hbo.cell 8; have e9 := hbo.cell 9; have e10 := hbo.cell 10; have e11 := hbo.cell 11
  have H := Lib.hid h
  have Hbx := Lib.hid hbx
  have Hbo := Lib.hid hbo
  have Hb0 := Lib.hid hb0
  have Hsz := Lib.hid hsz
  have Hchk := Lib.hid hchk
  clear hbo hbo0 hb00 hb0 hbx hsz hchk h ho
  have Hm := Lib.hid hm
  clear hm
  rw [hz] at Hchk
  go_enter Tryz.func9, Tryz.ntmps9
  go_wp2_with fail
  refine Hchk.out.mono ?_
  rintro e w1 ⟨rfl, hb1⟩
  have hbo1 := Hbo.out.below hb1 Hbo.out.lt
  have a0 := hbo1.cell 0
  have a5 := hbo1.cell 5
  have a7 := hbo1.cell 7
  have a8 := hbo1.cell 8
  have a9 := hbo1.cell 9
  have Hb1 := Lib.hid hb1
  have Hbw := Lib.hid (Below.trans Hb0.out (hb1.mono (by rw [Hsz.out]; omega)))
  have Hbx1 := Lib.hid (Hbx.out.below hb1 Hbx.out.lt)
  have Hlt1 : Hid (w.heap.size + 1 < w1.heap.size) := Lib.hid (by have := hb1.size; have := Hsz.out; omega)
  clear hbo1 hb1
  go_wp2_with fail
  refine (Hm.out _ Hbw.out).mono ?_
  rintro e w5 hp
  have hp0 := hp
  obtain ⟨v, ix', E', X', rfl, ⟨rv, sv, rfl, hr, hR⟩, -, -, -, hk, -, -⟩ := hp0
  obtain ⟨Ax, cx, rfl, -⟩ := own_sliceN hr
  obtain ⟨Ay, cy, rfl⟩ := hR.slice
  obtain ⟨ac, at', ar, as', an⟩ := a
  have hbx5 := (show Box w5 _ _ _ from (hk.block _ Hlt1.out (by have := H.out.lt.1; omega) (by have := H.out.lt.2; omega) (fun e => by have := (H.out.irow.lt _ e.symm).2; omega)).trans Hbx1.out)
  have Hp := Lib.hid hp
  clear hp hr hR hk
  unfold replyV
  obtain ⟨r0, r1, r2, r3, r4, k0, k1, k2, k3, k4⟩ := box5 hbx5
  obtain ⟨W3, hW3⟩ : ∃ W3, ((((w5.setCell ⟨w.heap.size + 1, 0, none⟩ (.int .i64 ac)).setCell ⟨w.heap.size + 1, 1, none⟩ (.bool at')).setCell ⟨w.heap.size + 1, 2, none⟩ (.slice Ax ar.length cx)).setCell ⟨w.heap.size + 1, 3, none⟩ (.slice Ay as'.length cy)).setCell ⟨w.heap.size + 1, 4, none⟩ (.int .i64 an) = W3 := ⟨_, rfl⟩
  obtain ⟨p0, p1, p2, p3, p4, -⟩ := box5 (box5_store hbx5 hW3)
  have Hend := Lib.hid (do_end H.out Hbw.out rfl Hlt1.out Hbx1.out Hp.out hW3)
  clear hbx5
  go_wp2
  refine bodyPost_ret (v := replyV ac at' (.slice Ax ar.length cx) (.slice Ay as'.length cy) an) ?_ rfl Hend.out
  simp [results, Tryz.results9, go_sem, replyV, p0, p1, p2, p3, p4]
set_option maxRecDepth 100000 in
set_option maxHeartbeats 3200000 in
theorem do_k7 (h : Store w B sb mb ix E X d) (C : Nat) (hC : C ≤ w.heap.size) (key to : ByteArray) (rc old low high : List TVal) (id lim sp nd : Int) (fs : List Int) (Ar Ao Af Al Ah : Option Addr) (nr cr no co nf cf nl cl nh ch : Nat)
    (ho : OpIs w C (.agg #[.int .i64 7, .string key, .string to, .slice Ar nr cr, .slice Ao no co, .int .i64 id, .slice Af nf cf, .slice Al nl cl, .slice Ah nh ch, .int .i64 lim, .int .i64 sp, .int .i64 nd]) ⟨7, key, to, rc, old, id, fs, low, high, lim, sp, nd⟩) (hz : checkT ⟨7, key, to, rc, old, id, fs, low, high, lim, sp, nd⟩ = 0) {M : Kv (List TVal)} {I : List (Int × List Int)} {n : Nat} {a : Ans}
    (hm : ∀ w1, Below w.heap.size w w1 → Calls Tryz.prog 28 #[.pointer (some ⟨sb, 0, none⟩), .slice Af nf cf] w1 (DoPost B sb mb ix E M I n a w1)) :
    Calls Tryz.prog 9 #[.pointer (some ⟨sb, 0, none⟩), .agg #[.int .i64 7, .string key, .string to, .slice Ar nr cr, .slice Ao no co, .int .i64 id, .slice Af nf cf, .slice Al nl cl, .slice Ah nh ch, .int .i64 lim, .int .i64 sp, .int .i64 nd]] w (DoPost B sb mb ix E M I n a w) := by
  obtain ⟨w00, hw00⟩ : ∃ w00, w.alloc (.cells #[.int .i64 7, .string key, .string to, .slice Ar nr cr, .slice Ao no co, .int .i64 id, .slice Af nf cf, .slice Al nl cl, .slice Ah nh ch, .int .i64 lim, .int .i64 sp, .int .i64 nd] 39) = w00 := ⟨_, rfl⟩
  have hb00 : Below w.heap.size w w00 := hw00 ▸ below_alloc _ _
  have hbo0 : Box w00 w.heap.size 39 #[.int .i64 7, .string key, .string to, .slice Ar nr cr, .slice Ao no co, .int .i64 id, .slice Af nf cf, .slice Al nl cl, .slice Ah nh ch, .int .i64 lim, .int .i64 sp, .int .i64 nd] := hw00 ▸ Box.made _ _ _
  have hs00 : w00.heap.size = w.heap.size + 1 := by rw [← hw00]; simp
  obtain ⟨w0, hw0⟩ : ∃ w0, w00.alloc (.cells #[.int .i64 0, .bool false, .slice none 0 0, .slice none 0 0, .int .i64 0] 35) = w0 := ⟨_, rfl⟩
  have hb0 : Below w.heap.size w w0 := Below.then hb00 (hw0 ▸ below_alloc _ _)
  have hbx : Box w0 (w.heap.size + 1) 35 #[.int .i64 0, .bool false, .slice none 0 0, .slice none 0 0, .int .i64 0] := hw0 ▸ made_at hs00 _ _
  have hbo : Box w0 w.heap.size 39 #[.int .i64 7, .string key, .string to, .slice Ar nr cr, .slice Ao no co, .int .i64 id, .slice Af nf cf, .slice Al nl cl, .slice Ah nh ch, .int .i64 lim, .int .i64 sp, .int .i64 nd] := hw0 ▸ hbo0.alloc _
  have hsz : w0.heap.size = w.heap.size + 1 + 1 := by rw [← hw0]; simp [hs00]
  have hchk := plainCheck_any _ _ C w0 (Nat.le_trans hC hb0.size) (ho.belowOf hb0 hC)
  have e0 := hbo.cell 0; have e1 := hbo.cell 1; have e2 := hbo.cell 2; have e3 := hbo.cell 3; have e4 := hbo.cell 4; have e5 := hbo.cell 5
  have e6 := hbo.cell 6; have e7 := hbo.cell 7; have e8 := hbo.cell 8; have e9 := hbo.cell 9; have e10 := hbo.cell 10; have e11 := hbo.cell 11
  have H := Lib.hid h
  have Hbx := Lib.hid hbx
  have Hbo := Lib.hid hbo
  have Hb0 := Lib.hid hb0
  have Hsz := Lib.hid hsz
  have Hchk := Lib.hid hchk
  clear hbo hbo0 hb00 hb0 hbx hsz hchk h ho
  have Hm := Lib.hid hm
  clear hm
  rw [hz] at Hchk
  go_enter Tryz.func9, Tryz.ntmps9
  go_wp2_with fail
  refine Hchk.out.mono ?_
  rintro e w1 ⟨rfl, hb1⟩
  have hbo1 := Hbo.out.below hb1 Hbo.out.lt
  have a0 := hbo1.cell 0
  have a6 := hbo1.cell 6
  have Hb1 := Lib.hid hb1
  have Hbw := Lib.hid (Below.trans Hb0.out (hb1.mono (by rw [Hsz.out]; omega)))
  have Hbx1 := Lib.hid (Hbx.out.below hb1 Hbx.out.lt)
  have Hlt1 : Hid (w.heap.size + 1 < w1.heap.size) := Lib.hid (by have := hb1.size; have := Hsz.out; omega)
  clear hbo1 hb1
  go_wp2_with fail
  refine (Hm.out _ Hbw.out).mono ?_
  rintro e w5 hp
  have hp0 := hp
  obtain ⟨v, ix', E', X', rfl, ⟨rv, sv, rfl, hr, hR⟩, -, -, -, hk, -, -⟩ := hp0
  obtain ⟨Ax, cx, rfl, -⟩ := own_sliceN hr
  obtain ⟨Ay, cy, rfl⟩ := hR.slice
  obtain ⟨ac, at', ar, as', an⟩ := a
  have hbx5 := (show Box w5 _ _ _ from (hk.block _ Hlt1.out (by have := H.out.lt.1; omega) (by have := H.out.lt.2; omega) (fun e => by have := (H.out.irow.lt _ e.symm).2; omega)).trans Hbx1.out)
  have Hp := Lib.hid hp
  clear hp hr hR hk
  unfold replyV
  obtain ⟨r0, r1, r2, r3, r4, k0, k1, k2, k3, k4⟩ := box5 hbx5
  obtain ⟨W3, hW3⟩ : ∃ W3, ((((w5.setCell ⟨w.heap.size + 1, 0, none⟩ (.int .i64 ac)).setCell ⟨w.heap.size + 1, 1, none⟩ (.bool at')).setCell ⟨w.heap.size + 1, 2, none⟩ (.slice Ax ar.length cx)).setCell ⟨w.heap.size + 1, 3, none⟩ (.slice Ay as'.length cy)).setCell ⟨w.heap.size + 1, 4, none⟩ (.int .i64 an) = W3 := ⟨_, rfl⟩
  obtain ⟨p0, p1, p2, p3, p4, -⟩ := box5 (box5_store hbx5 hW3)
  have Hend := Lib.hid (do_end H.out Hbw.out rfl Hlt1.out Hbx1.out Hp.out hW3)
  clear hbx5
  go_wp2
  refine bodyPost_ret (v := replyV ac at' (.slice Ax ar.length cx) (.slice Ay as'.length cy) an) ?_ rfl Hend.out
  simp [results, Tryz.results9, go_sem, replyV, p0, p1, p2, p3, p4]
set_option maxRecDepth 100000 in
set_option maxHeartbeats 3200000 in
theorem do_k8 (h : Store w B sb mb ix E X d) (C : Nat) (hC : C ≤ w.heap.size) (key to : ByteArray) (rc old low high : List TVal) (id lim sp nd : Int) (fs : List Int) (Ar Ao Af Al Ah : Option Addr) (nr cr no co nf cf nl cl nh ch : Nat)
    (ho : OpIs w C (.agg #[.int .i64 8, .string key, .string to, .slice Ar nr cr, .slice Ao no co, .int .i64 id, .slice Af nf cf, .slice Al nl cl, .slice Ah nh ch, .int .i64 lim, .int .i64 sp, .int .i64 nd]) ⟨8, key, to, rc, old, id, fs, low, high, lim, sp, nd⟩) (hz : checkT ⟨8, key, to, rc, old, id, fs, low, high, lim, sp, nd⟩ = 0) {M : Kv (List TVal)} {I : List (Int × List Int)} {n : Nat} {a : Ans}
    (hm : ∀ w1, Below w.heap.size w w1 → Calls Tryz.prog 29 #[.pointer (some ⟨sb, 0, none⟩), .int .i64 id] w1 (DoPost B sb mb ix E M I n a w1)) :
    Calls Tryz.prog 9 #[.pointer (some ⟨sb, 0, none⟩), .agg #[.int .i64 8, .string key, .string to, .slice Ar nr cr, .slice Ao no co, .int .i64 id, .slice Af nf cf, .slice Al nl cl, .slice Ah nh ch, .int .i64 lim, .int .i64 sp, .int .i64 nd]] w (DoPost B sb mb ix E M I n a w) := by
  obtain ⟨w00, hw00⟩ : ∃ w00, w.alloc (.cells #[.int .i64 8, .string key, .string to, .slice Ar nr cr, .slice Ao no co, .int .i64 id, .slice Af nf cf, .slice Al nl cl, .slice Ah nh ch, .int .i64 lim, .int .i64 sp, .int .i64 nd] 39) = w00 := ⟨_, rfl⟩
  have hb00 : Below w.heap.size w w00 := hw00 ▸ below_alloc _ _
  have hbo0 : Box w00 w.heap.size 39 #[.int .i64 8, .string key, .string to, .slice Ar nr cr, .slice Ao no co, .int .i64 id, .slice Af nf cf, .slice Al nl cl, .slice Ah nh ch, .int .i64 lim, .int .i64 sp, .int .i64 nd] := hw00 ▸ Box.made _ _ _
  have hs00 : w00.heap.size = w.heap.size + 1 := by rw [← hw00]; simp
  obtain ⟨w0, hw0⟩ : ∃ w0, w00.alloc (.cells #[.int .i64 0, .bool false, .slice none 0 0, .slice none 0 0, .int .i64 0] 35) = w0 := ⟨_, rfl⟩
  have hb0 : Below w.heap.size w w0 := Below.then hb00 (hw0 ▸ below_alloc _ _)
  have hbx : Box w0 (w.heap.size + 1) 35 #[.int .i64 0, .bool false, .slice none 0 0, .slice none 0 0, .int .i64 0] := hw0 ▸ made_at hs00 _ _
  have hbo : Box w0 w.heap.size 39 #[.int .i64 8, .string key, .string to, .slice Ar nr cr, .slice Ao no co, .int .i64 id, .slice Af nf cf, .slice Al nl cl, .slice Ah nh ch, .int .i64 lim, .int .i64 sp, .int .i64 nd] := hw0 ▸ hbo0.alloc _
  have hsz : w0.heap.size = w.heap.size + 1 + 1 := by rw [← hw0]; simp [hs00]
  have hchk := plainCheck_any _ _ C w0 (Nat.le_trans hC hb0.size) (ho.belowOf hb0 hC)
  have e0 := hbo.cell 0; have e1 := hbo.cell 1; have e2 := hbo.cell 2; have e3 := hbo.cell 3; have e4 := hbo.cell 4; have e5 := hbo.cell 5
  have e6 := hbo.cell 6; have e7 := hbo.cell 7; have e8 := hbo.cell 8; have e9 := hbo.cell 9; have e10 := hbo.cell 10; have e11 := hbo.cell 11
  have H := Lib.hid h
  have Hbx := Lib.hid hbx
  have Hbo := Lib.hid hbo
  have Hb0 := Lib.hid hb0
  have Hsz := Lib.hid hsz
  have Hchk := Lib.hid hchk
  clear hbo hbo0 hb00 hb0 hbx hsz hchk h ho
  have Hm := Lib.hid hm
  clear hm
  rw [hz] at Hchk
  go_enter Tryz.func9, Tryz.ntmps9
  go_wp2_with fail
  refine Hchk.out.mono ?_
  rintro e w1 ⟨rfl, hb1⟩
  have hbo1 := Hbo.out.below hb1 Hbo.out.lt
  have a0 := hbo1.cell 0
  have a5 := hbo1.cell 5
  have Hb1 := Lib.hid hb1
  have Hbw := Lib.hid (Below.trans Hb0.out (hb1.mono (by rw [Hsz.out]; omega)))
  have Hbx1 := Lib.hid (Hbx.out.below hb1 Hbx.out.lt)
  have Hlt1 : Hid (w.heap.size + 1 < w1.heap.size) := Lib.hid (by have := hb1.size; have := Hsz.out; omega)
  clear hbo1 hb1
  go_wp2_with fail
  refine (Hm.out _ Hbw.out).mono ?_
  rintro e w5 hp
  have hp0 := hp
  obtain ⟨v, ix', E', X', rfl, ⟨rv, sv, rfl, hr, hR⟩, -, -, -, hk, -, -⟩ := hp0
  obtain ⟨Ax, cx, rfl, -⟩ := own_sliceN hr
  obtain ⟨Ay, cy, rfl⟩ := hR.slice
  obtain ⟨ac, at', ar, as', an⟩ := a
  have hbx5 := (show Box w5 _ _ _ from (hk.block _ Hlt1.out (by have := H.out.lt.1; omega) (by have := H.out.lt.2; omega) (fun e => by have := (H.out.irow.lt _ e.symm).2; omega)).trans Hbx1.out)
  have Hp := Lib.hid hp
  clear hp hr hR hk
  unfold replyV
  obtain ⟨r0, r1, r2, r3, r4, k0, k1, k2, k3, k4⟩ := box5 hbx5
  obtain ⟨W3, hW3⟩ : ∃ W3, ((((w5.setCell ⟨w.heap.size + 1, 0, none⟩ (.int .i64 ac)).setCell ⟨w.heap.size + 1, 1, none⟩ (.bool at')).setCell ⟨w.heap.size + 1, 2, none⟩ (.slice Ax ar.length cx)).setCell ⟨w.heap.size + 1, 3, none⟩ (.slice Ay as'.length cy)).setCell ⟨w.heap.size + 1, 4, none⟩ (.int .i64 an) = W3 := ⟨_, rfl⟩
  obtain ⟨p0, p1, p2, p3, p4, -⟩ := box5 (box5_store hbx5 hW3)
  have Hend := Lib.hid (do_end H.out Hbw.out rfl Hlt1.out Hbx1.out Hp.out hW3)
  clear hbx5
  go_wp2
  refine bodyPost_ret (v := replyV ac at' (.slice Ax ar.length cx) (.slice Ay as'.length cy) an) ?_ rfl Hend.out
  simp [results, Tryz.results9, go_sem, replyV, p0, p1, p2, p3, p4]
set_option maxRecDepth 100000 in
set_option maxHeartbeats 3200000 in
theorem do_err (h : Store w B sb mb ix E X d) (C : Nat) (hC : C ≤ w.heap.size) (K : Int) (key to : ByteArray) (rc old low high : List TVal) (id lim sp nd : Int) (fs : List Int) (Ar Ao Af Al Ah : Option Addr) (nr cr no co nf cf nl cl nh ch : Nat)
    (ho : OpIs w C (.agg #[.int .i64 K, .string key, .string to, .slice Ar nr cr, .slice Ao no co, .int .i64 id, .slice Af nf cf, .slice Al nl cl, .slice Ah nh ch, .int .i64 lim, .int .i64 sp, .int .i64 nd]) ⟨K, key, to, rc, old, id, fs, low, high, lim, sp, nd⟩) (hz : ¬ checkT ⟨K, key, to, rc, old, id, fs, low, high, lim, sp, nd⟩ = 0) :
    Calls Tryz.prog 9 #[.pointer (some ⟨sb, 0, none⟩), .agg #[.int .i64 K, .string key, .string to, .slice Ar nr cr, .slice Ao no co, .int .i64 id, .slice Af nf cf, .slice Al nl cl, .slice Ah nh ch, .int .i64 lim, .int .i64 sp, .int .i64 nd]] w (DoPost B sb mb ix E (mapK (·.2) E) (X.map xi) d ⟨(checkT ⟨K, key, to, rc, old, id, fs, low, high, lim, sp, nd⟩ : Int), false, [], [], 0⟩ w) := by
  obtain ⟨w00, hw00⟩ : ∃ w00, w.alloc (.cells #[.int .i64 K, .string key, .string to, .slice Ar nr cr, .slice Ao no co, .int .i64 id, .slice Af nf cf, .slice Al nl cl, .slice Ah nh ch, .int .i64 lim, .int .i64 sp, .int .i64 nd] 39) = w00 := ⟨_, rfl⟩
  have hb00 : Below w.heap.size w w00 := hw00 ▸ below_alloc _ _
  have hbo0 : Box w00 w.heap.size 39 #[.int .i64 K, .string key, .string to, .slice Ar nr cr, .slice Ao no co, .int .i64 id, .slice Af nf cf, .slice Al nl cl, .slice Ah nh ch, .int .i64 lim, .int .i64 sp, .int .i64 nd] := hw00 ▸ Box.made _ _ _
  have hs00 : w00.heap.size = w.heap.size + 1 := by rw [← hw00]; simp
  obtain ⟨w0, hw0⟩ : ∃ w0, w00.alloc (.cells #[.int .i64 0, .bool false, .slice none 0 0, .slice none 0 0, .int .i64 0] 35) = w0 := ⟨_, rfl⟩
  have hb0 : Below w.heap.size w w0 := Below.then hb00 (hw0 ▸ below_alloc _ _)
  have hbx : Box w0 (w.heap.size + 1) 35 #[.int .i64 0, .bool false, .slice none 0 0, .slice none 0 0, .int .i64 0] := hw0 ▸ made_at hs00 _ _
  have hbo : Box w0 w.heap.size 39 #[.int .i64 K, .string key, .string to, .slice Ar nr cr, .slice Ao no co, .int .i64 id, .slice Af nf cf, .slice Al nl cl, .slice Ah nh ch, .int .i64 lim, .int .i64 sp, .int .i64 nd] := hw0 ▸ hbo0.alloc _
  have hsz : w0.heap.size = w.heap.size + 1 + 1 := by rw [← hw0]; simp [hs00]
  have hchk := plainCheck_any _ _ C w0 (Nat.le_trans hC hb0.size) (ho.belowOf hb0 hC)
  have e0 := hbo.cell 0; have e1 := hbo.cell 1; have e2 := hbo.cell 2; have e3 := hbo.cell 3; have e4 := hbo.cell 4; have e5 := hbo.cell 5
  have e6 := hbo.cell 6; have e7 := hbo.cell 7; have e8 := hbo.cell 8; have e9 := hbo.cell 9; have e10 := hbo.cell 10; have e11 := hbo.cell 11
  have H := Lib.hid h
  have Hbx := Lib.hid hbx
  have Hbo := Lib.hid hbo
  have Hb0 := Lib.hid hb0
  have Hsz := Lib.hid hsz
  have Hchk := Lib.hid hchk
  clear hbo hbo0 hb00 hb0 hbx hsz hchk h ho
  generalize checkT ⟨K, key, to, rc, old, id, fs, low, high, lim, sp, nd⟩ = c at hz Hchk ⊢
  have hcb : ((c : Int) != 0) = true := by simpa using hz
  clear hz
  go_enter Tryz.func9, Tryz.ntmps9
  go_wp2_with fail
  refine Hchk.out.mono ?_
  rintro e w1 ⟨rfl, hb1⟩
  have hbo1 := Hbo.out.below hb1 Hbo.out.lt
  have a0 := hbo1.cell 0
  have Hb1 := Lib.hid hb1
  have Hbw := Lib.hid (Below.trans Hb0.out (hb1.mono (by rw [Hsz.out]; omega)))
  have Hbx1 := Lib.hid (Hbx.out.below hb1 Hbx.out.lt)
  have Hlt1 : Hid (w.heap.size + 1 < w1.heap.size) := Lib.hid (by have := hb1.size; have := Hsz.out; omega)
  clear hbo1 hb1
  have Hp := Lib.hid (do_same (H.out.below Hbw.out) (ans_plain w1 w1.heap.size (c : Int) false 0) (Below.refl _ w1))
  have hbx5 := Hbx1.out
  obtain ⟨r0, r1, r2, r3, r4, k0, k1, k2, k3, k4⟩ := box5 hbx5
  obtain ⟨W3, hW3⟩ : ∃ W3, ((((w1.setCell ⟨w.heap.size + 1, 0, none⟩ (.int .i64 (c : Int))).setCell ⟨w.heap.size + 1, 1, none⟩ (.bool false)).setCell ⟨w.heap.size + 1, 2, none⟩ (.slice none 0 0)).setCell ⟨w.heap.size + 1, 3, none⟩ (.slice none 0 0)).setCell ⟨w.heap.size + 1, 4, none⟩ (.int .i64 0) = W3 := ⟨_, rfl⟩
  obtain ⟨p0, p1, p2, p3, p4, -⟩ := box5 (box5_store hbx5 hW3)
  have Hend := Lib.hid (do_end H.out Hbw.out rfl Hlt1.out Hbx1.out Hp.out hW3)
  clear hbx5
  go_wp2
  refine bodyPost_ret (v := replyV (c : Int) false (.slice none 0 0) (.slice none 0 0) 0) ?_ rfl Hend.out
  simp [results, Tryz.results9, go_sem, replyV, p0, p1, p2, p3, p4]
set_option maxRecDepth 100000 in
set_option maxHeartbeats 3200000 in
theorem do_other (h : Store w B sb mb ix E X d) (C : Nat) (hC : C ≤ w.heap.size) (K : Int) (key to : ByteArray) (rc old low high : List TVal) (id lim sp nd : Int) (fs : List Int) (Ar Ao Af Al Ah : Option Addr) (nr cr no co nf cf nl cl nh ch : Nat)
    (ho : OpIs w C (.agg #[.int .i64 K, .string key, .string to, .slice Ar nr cr, .slice Ao no co, .int .i64 id, .slice Af nf cf, .slice Al nl cl, .slice Ah nh ch, .int .i64 lim, .int .i64 sp, .int .i64 nd]) ⟨K, key, to, rc, old, id, fs, low, high, lim, sp, nd⟩) (hz : checkT ⟨K, key, to, rc, old, id, fs, low, high, lim, sp, nd⟩ = 0) (hk : 8 < K) :
    Calls Tryz.prog 9 #[.pointer (some ⟨sb, 0, none⟩), .agg #[.int .i64 K, .string key, .string to, .slice Ar nr cr, .slice Ao no co, .int .i64 id, .slice Af nf cf, .slice Al nl cl, .slice Ah nh ch, .int .i64 lim, .int .i64 sp, .int .i64 nd]] w (DoPost B sb mb ix E (mapK (·.2) E) (X.map xi) d ⟨0, false, [], [], 0⟩ w) := by
  obtain ⟨w00, hw00⟩ : ∃ w00, w.alloc (.cells #[.int .i64 K, .string key, .string to, .slice Ar nr cr, .slice Ao no co, .int .i64 id, .slice Af nf cf, .slice Al nl cl, .slice Ah nh ch, .int .i64 lim, .int .i64 sp, .int .i64 nd] 39) = w00 := ⟨_, rfl⟩
  have hb00 : Below w.heap.size w w00 := hw00 ▸ below_alloc _ _
  have hbo0 : Box w00 w.heap.size 39 #[.int .i64 K, .string key, .string to, .slice Ar nr cr, .slice Ao no co, .int .i64 id, .slice Af nf cf, .slice Al nl cl, .slice Ah nh ch, .int .i64 lim, .int .i64 sp, .int .i64 nd] := hw00 ▸ Box.made _ _ _
  have hs00 : w00.heap.size = w.heap.size + 1 := by rw [← hw00]; simp
  obtain ⟨w0, hw0⟩ : ∃ w0, w00.alloc (.cells #[.int .i64 0, .bool false, .slice none 0 0, .slice none 0 0, .int .i64 0] 35) = w0 := ⟨_, rfl⟩
  have hb0 : Below w.heap.size w w0 := Below.then hb00 (hw0 ▸ below_alloc _ _)
  have hbx : Box w0 (w.heap.size + 1) 35 #[.int .i64 0, .bool false, .slice none 0 0, .slice none 0 0, .int .i64 0] := hw0 ▸ made_at hs00 _ _
  have hbo : Box w0 w.heap.size 39 #[.int .i64 K, .string key, .string to, .slice Ar nr cr, .slice Ao no co, .int .i64 id, .slice Af nf cf, .slice Al nl cl, .slice Ah nh ch, .int .i64 lim, .int .i64 sp, .int .i64 nd] := hw0 ▸ hbo0.alloc _
  have hsz : w0.heap.size = w.heap.size + 1 + 1 := by rw [← hw0]; simp [hs00]
  have hchk := plainCheck_any _ _ C w0 (Nat.le_trans hC hb0.size) (ho.belowOf hb0 hC)
  have e0 := hbo.cell 0; have e1 := hbo.cell 1; have e2 := hbo.cell 2; have e3 := hbo.cell 3; have e4 := hbo.cell 4; have e5 := hbo.cell 5
  have e6 := hbo.cell 6; have e7 := hbo.cell 7; have e8 := hbo.cell 8; have e9 := hbo.cell 9; have e10 := hbo.cell 10; have e11 := hbo.cell 11
  have H := Lib.hid h
  have Hbx := Lib.hid hbx
  have Hbo := Lib.hid hbo
  have Hb0 := Lib.hid hb0
  have Hsz := Lib.hid hsz
  have Hchk := Lib.hid hchk
  clear hbo hbo0 hb00 hb0 hbx hsz hchk h ho
  have z1 : (K == 1) = false := by simp; omega
  have z2 : (K == 2) = false := by simp; omega
  have z3 : (K == 3) = false := by simp; omega
  have z4 : (K == 4) = false := by simp; omega
  have z5 : (K == 5) = false := by simp; omega
  have z6 : (K == 6) = false := by simp; omega
  have z7 : (K == 7) = false := by simp; omega
  have z8 : (K == 8) = false := by simp; omega
  clear hk
  rw [hz] at Hchk
  go_enter Tryz.func9, Tryz.ntmps9
  go_wp2_with fail
  refine Hchk.out.mono ?_
  rintro e w1 ⟨rfl, hb1⟩
  have hbo1 := Hbo.out.below hb1 Hbo.out.lt
  have a0 := hbo1.cell 0
  have Hb1 := Lib.hid hb1
  have Hbw := Lib.hid (Below.trans Hb0.out (hb1.mono (by rw [Hsz.out]; omega)))
  have Hbx1 := Lib.hid (Hbx.out.below hb1 Hbx.out.lt)
  have Hlt1 : Hid (w.heap.size + 1 < w1.heap.size) := Lib.hid (by have := hb1.size; have := Hsz.out; omega)
  clear hbo1 hb1
  have Hp := Lib.hid (do_same (H.out.below Hbw.out) (ans_plain w1 w1.heap.size 0 false 0) (Below.refl _ w1))
  have hbx5 := Hbx1.out
  obtain ⟨r0, r1, r2, r3, r4, k0, k1, k2, k3, k4⟩ := box5 hbx5
  obtain ⟨W3, hW3⟩ : ∃ W3, ((((w1.setCell ⟨w.heap.size + 1, 0, none⟩ (.int .i64 0)).setCell ⟨w.heap.size + 1, 1, none⟩ (.bool false)).setCell ⟨w.heap.size + 1, 2, none⟩ (.slice none 0 0)).setCell ⟨w.heap.size + 1, 3, none⟩ (.slice none 0 0)).setCell ⟨w.heap.size + 1, 4, none⟩ (.int .i64 0) = W3 := ⟨_, rfl⟩
  obtain ⟨p0, p1, p2, p3, p4, -⟩ := box5 (box5_store hbx5 hW3)
  have Hend := Lib.hid (do_end H.out Hbw.out rfl Hlt1.out Hbx1.out Hp.out hW3)
  clear hbx5
  go_wp2
  refine bodyPost_ret (v := replyV 0 false (.slice none 0 0) (.slice none 0 0) 0) ?_ rfl Hend.out
  simp [results, Tryz.results9, go_sem, replyV, p0, p1, p2, p3, p4]
end
end Go.Proofs.YtknfjajmnlpfjaaGreat

namespace Go.Proofs.YtknfjajmnlpfjaaGreat
open Go.RowKit
open Go.Lib (strCells compareBytes)

section
variable {B sb mb d : Nat} {ix : Value} {E : Kv (Value × List TVal)} {X : List Ix} {w : World}
def QueryPost (id : Int) (X : List Ix) (low high : List TVal) (lim : Nat) (M : Kv (List TVal)) (w : World) (e : Ending) (w' : World) : Prop :=
  if posI id X < X.length then ∃ v, e = .returned (replyV 0 false (.slice none 0 0) v 0) ∧ RowsIs w' (w.heap.size + 1) v (queryT id X low high lim M) ∧ Below w.heap.size w w'
  else e = .returned (replyV 7 false (.slice none 0 0) (.slice none 0 0) 0) ∧ Below w.heap.size w w'
set_option maxRecDepth 100000 in
set_option maxHeartbeats 3200000 in
theorem query_any (h : Store w B sb mb ix E X d) (id : Int) (lv hv : Value) (low high : List TVal) (lim : Nat) (C : Nat) (h1 : IsVals w C lv low) (h2 : IsVals w C hv high) (hC : C ≤ w.heap.size) (hE : E.length ≤ 1000) (hlim : lim ≤ 64) :
    Calls Tryz.prog 27 #[.pointer (some ⟨sb, 0, none⟩), .int .i64 id, lv, hv, .int .i64 (lim : Int)] w (QueryPost id X low high lim (mapK (·.2) E) w) := by
  have Hv1 := Lib.hid h1
  have Hv2 := Lib.hid h2
  obtain ⟨A1, n1, c1, rfl, -⟩ := h1
  obtain ⟨A2, n2, c2, rfl, -⟩ := h2
  obtain ⟨w0, hw0⟩ : ∃ w0, w.alloc (.cells #[.int .i64 0, .bool false, .slice none 0 0, .slice none 0 0, .int .i64 0] 35) = w0 := ⟨_, rfl⟩
  have hb0 : Below w.heap.size w w0 := hw0 ▸ below_alloc _ _
  have hbx : Box w0 w.heap.size 35 #[.int .i64 0, .bool false, .slice none 0 0, .slice none 0 0, .int .i64 0] := hw0 ▸ Box.made _ _ _
  have hsz : w0.heap.size = w.heap.size + 1 := by rw [← hw0]; simp
  have H0 := Lib.hid (h.below hb0)
  have Hbx := Lib.hid hbx
  have Hb0 := Lib.hid hb0
  have Hsz := Lib.hid hsz
  have HC := Lib.hid hC
  have HE := Lib.hid hE
  clear hb0 hbx hsz h hC hE
  unfold QueryPost
  by_cases hp : posI id X < X.length
  · simp only [if_pos hp]
    have Efind : Hid (findT id X = (posI id X : Int)) := Lib.hid (by unfold findT; rw [if_pos hp])
    have hpos : (0 : Int) ≤ (posI id X : Int) := by omega
    generalize hS : shownT id X (mapK (·.2) E) = S
    have HS : Hid (∀ e ∈ S, ∃ m k, e = entryT id m k ∧ entryErr id m k = 0 ∧ (∀ u ∈ m, InI64 u.n) ∧ k.length ≤ 16) := Lib.hid (fun e he => shown_mem H0.out (hS ▸ he))
    have HQ : Hid (queryT id X low high lim (mapK (·.2) E) = rowsT (mapK (·.2) E) ((S.filterMap (hitK low high)).take lim)) := Lib.hid (by rw [queryT, hS])
    have Hshow := Lib.hid (fun wx (hx : Store wx B sb mb ix E X d) => hS ▸ shown_any hx id HE.out)
    have HSl : Hid (S.length ≤ 1000) := Lib.hid (by
      rw [← hS, shownT]
      cases X[posI id X]? with
      | none => simp
      | some x =>
        simp only [List.length_mergeSort]
        have := List.length_filterMap_le (fun p : List UInt8 × List TVal => entE id x.fs p.1 p.2) (mapK (·.2) E)
        have h2 : (mapK (fun a : Value × List TVal => a.2) E).length = E.length := by simp [mapK]
        have := HE.out
        unfold entsOf
        omega)
    clear hS hp
    generalize queryT id X low high lim (mapK (·.2) E) = L at HQ ⊢
    go_enter Tryz.func27, Tryz.ntmps27
    go_wp2_with fail
    refine (find_any id H0.out).mono ?_
    rintro e w1 ⟨rfl, hb1⟩
    rw [Efind.out]
    have H1 := Lib.hid (H0.out.below hb1)
    have Hb1 := Lib.hid hb1
    clear hb1
    go_wp2_with fail
    refine (Hshow.out _ H1.out).mono ?_
    rintro e w2 ⟨sv, rfl, ho2, hb2⟩
    obtain ⟨As, cs, rfl, -, -, hs2⟩ := own_slice ho2
    have Hs2 := Lib.hid hs2
    have Hb2 := Lib.hid (Below.then Hb1.out hb2)
    have H2 := Lib.hid (H1.out.below hb2)
    have hsz2 := Hb2.out.size
    have hsl := HSl.out
    clear ho2 hs2 hb2
    go_wp2
    go_loopw [11, 27] (fun kv i wr => ∃ (k : Nat), k ≤ S.length ∧ i = .int .i64 (k : Int) ∧ Hid (wr.ownsRow w2.heap.size 9 1 kv ((S.take k).filterMap (hitK low high)).length (strRow ((S.take k).filterMap (hitK low high)))) ∧ Hid (Below w2.heap.size w2 wr)) (fun _ i _ => S.length - (intOf i).toNat)
    case atStart => exact ⟨0, by omega, rfl, Lib.hid (World.ownsRow_nil _ _ _ _), Lib.hid (Below.refl _ _)⟩
    case round =>
      obtain ⟨k, hk, rfl, Hrow, Hb⟩ := hrel
      have hszr := Hb.out.size
      by_cases hlt : k < S.length
      · obtain ⟨a, rfl, hab, hc0⟩ := (Hs2.out.below Hb.out).cell hlt
        have e0 : (strRow S).getD k undef = .string ⟨S[k].toArray⟩ := by simp [strRow, hlt, encStr]
        rw [e0] at hc0
        obtain ⟨m, key, he1, he2, he3, he4⟩ := HS.out S[k] (List.getElem_mem hlt)
        have E1 : Hid ((S.take (k + 1)).filterMap (hitK low high) = (S.take k).filterMap (hitK low high) ++ (if liesB m low high then [key] else [])) := Lib.hid (by
          rw [List.take_succ_eq_append_getElem hlt, List.filterMap_append, List.filterMap_cons, he1, hitK_entry he2 he3]
          by_cases hl : liesB m low high <;> simp [hl])
        obtain ⟨s, hs⟩ : ∃ s : ByteArray, ⟨S[k].toArray⟩ = s := ⟨_, rfl⟩
        have Hparse := Lib.hid (fun wx => parse_ok s id m key wx (by rw [← hs, ← he1]) he2 he3)
        rw [hs] at hc0
        have Hm := Lib.hid he3
        have Hlen : Hid (((S.take k).filterMap (hitK low high)).length ≤ 1000) := Lib.hid (by
          have := List.length_filterMap_le (hitK low high) (S.take k)
          have h2 := HSl.out
          rw [List.length_take] at this
          omega)
        have hk0 : (0 : Int) ≤ (k : Int) := by omega
        have hk1 : (k : Int) < (S.length : Int) := by omega
        clear e0 he1 he2 he3 he4 hs
        go_wp2_with fail
        refine (Hparse.out _).mono ?_
        rintro e w3 ⟨v, rfl, ho3, hb3⟩
        obtain ⟨Av, cv, rfl, hv1, hv2, hv3⟩ := own_sliceN ho3
        have Hb3 := Lib.hid hb3
        have HbC : Hid (Below w.heap.size w w3) := Lib.hid ((Hb0.out.trans (Hb2.out.mono (by rw [Hsz.out]; omega))).trans ((Below.then Hb.out hb3).mono (by have := Hsz.out; omega)))
        obtain ⟨A1', n1', c1', e1, a1, a2, a3, a4⟩ := Hv1.out.belowOf HbC.out HC.out
        obtain ⟨A2', n2', c2', e2, d1, d2, d3, d4⟩ := Hv2.out.belowOf HbC.out HC.out
        injection e1 with e11 e12 e13
        injection e2 with e21 e22 e23
        subst e11; subst e12; subst e13
        subst e21; subst e22; subst e23
        have hszC : w.heap.size ≤ w3.heap.size := HbC.out.size
        have Hlies := Lib.hid (lies_any Av A1 A2 m.length n1 n2 cv c1 c2 w3.heap.size m low high w3 ⟨rfl, hv3⟩ (a3.more (Nat.le_trans HC.out hszC)) (d3.more (Nat.le_trans HC.out hszC)) (Nat.le_trans hv1 hv2) (Nat.le_trans a1 a2) (Nat.le_trans d1 d2) hv1 (Nat.le_refl _) Hm.out a4 d4)
        clear hb3 ho3 hv1 hv2 hv3 a1 a2 a3 a4 d1 d2 d3 d4
        cases hl : liesB m low high with
        | false =>
          rw [hl] at Hlies E1
          go_wp2_with fail
          refine Hlies.out.mono ?_
          rintro e w4 ⟨rfl, hb4⟩
          have Hb4 := Lib.hid (Below.then Hb3.out hb4)
          have Hrow4 := Lib.hid (own_below Hrow.out Hb4.out)
          clear hb4
          go_wp2
          go_roundw
          case rel => exact ⟨k + 1, by omega, by go_num, Lib.hid (by rw [E1.out]; simpa using Hrow4.out), Lib.hid (Below.then Hb.out Hb4.out)⟩
          case measure => simp [intOf]; omega
        | true =>
          rw [hl] at Hlies E1
          go_wp2_with fail
          refine Hlies.out.mono ?_
          rintro e w4 ⟨rfl, hb4⟩
          have Hb4 := Lib.hid (Below.then Hb3.out hb4)
          have Hrow4 := Lib.hid (own_below Hrow.out Hb4.out)
          have Hb24 := Lib.hid (Below.then Hb.out Hb4.out)
          have hsz4 := Hb24.out.size
          clear hb4
          go_wp2_with (at_builtin; refine wpList_append_has rfl (.tmp 42) (.tmp 44) _ rfl 9 str_elem Tryz.underlying41 rfl (Hrow4.out.alloc _) rfl (Has.lit w4 #[encStr key] _) (one_string _) (by have := Hlen.out; simp only [maxLen]; simp; omega) (by have := Hlen.out; simp; omega) (by simp; omega) ?_; intro v6 w6 hown6 hg6 hz6; have Hb6 : Hid (Below w2.heap.size w2 w6) := Lib.hid (below_own (Hb24.out.alloc hsz4 _) (Hrow4.out.alloc _) hg6 (by simp; omega)); clear hg6 hz6)
          go_roundw
          case rel =>
            refine ⟨k + 1, by omega, by go_num, Lib.hid ?_, Hb6⟩
            rw [E1.out, strRow, List.map_append, List.length_append]
            exact hown6
          case measure => simp [intOf]; omega
      · have hkn : k = S.length := by omega
        rw [hkn, List.take_length] at Hrow
        generalize hKS : S.filterMap (hitK low high) = KS at Hrow HQ
        have Hkl : Hid (∀ q ∈ KS, q.length ≤ 1000) := Lib.hid (fun q hq => by
          rw [← hKS, List.mem_filterMap] at hq
          obtain ⟨e, he, hq⟩ := hq
          obtain ⟨m, key, he1, he2, he3, he4⟩ := HS.out e he
          rw [he1, hitK_entry he2 he3] at hq
          split at hq
          · injection hq with hq; rw [← hq]; omega
          · cases hq)
        have Hkn : Hid (KS.length ≤ 1000) := Lib.hid (by
          rw [← hKS]
          have := List.length_filterMap_le (hitK low high) S
          have := HSl.out
          omega)
        obtain ⟨Ak, ck, e, hk1, hk2, hk3⟩ := own_slice Hrow.out
        subst e
        have H3 := Lib.hid (H2.out.below Hb.out)
        have hmn : (min (lim : Int) (KS.length : Int)).toNat = min lim KS.length := by omega
        have hm1 : (0 : Int) ≤ min (lim : Int) (KS.length : Int) := by omega
        have hm2 : min (lim : Int) (KS.length : Int) ≤ (ck : Int) := by omega
        have htk : Has wr wr.heap.size Ak (min lim KS.length) (strRow (KS.take lim)) := by
          have h := hk3.take (k := min lim KS.length) (by omega)
          have e : (strRow KS).take (min lim KS.length) = strRow (KS.take lim) := by
            rw [strRow, ← List.map_take, strRow, ← List.take_take, List.take_length]
          rwa [e] at h
        have Hrows := Lib.hid (rows_any H3.out Ak (min lim KS.length) ck _ (KS.take lim) htk (Nat.le_refl _) (by have := Hkn.out; omega) (fun q hq => Hkl.out q (List.mem_of_mem_take hq)))
        have Eq : Hid (((KS.take lim).map fun k => (k, recOf k E)) = L) := Lib.hid (by rw [HQ.out, rowsT]; simp only [recOf_map])
        rw [Eq.out] at Hrows
        have Hbr : Hid (Below w0.heap.size w0 wr) := Lib.hid (Below.then Hb2.out Hb.out)
        clear hk1 hk2 hk3 htk Hrow
        go_wp2_with fail
        refine Hrows.out.mono ?_
        rintro e w5 ⟨v, rfl, hR, hb5⟩
        obtain ⟨Ar, cr, rfl⟩ := hR.slice
        have hb05 := Below.then Hbr.out hb5
        have hbx5 := Hbx.out.below hb05 Hbx.out.lt
        obtain ⟨r0, r1, r2, r3, r4, k0, k1, k2, k3, k4⟩ := box5 hbx5
        obtain ⟨W3, hW3⟩ : ∃ W3, ((((w5.setCell ⟨w.heap.size, 0, none⟩ (.int .i64 0)).setCell ⟨w.heap.size, 1, none⟩ (.bool false)).setCell ⟨w.heap.size, 2, none⟩ (.slice none 0 0)).setCell ⟨w.heap.size, 3, none⟩ (.slice Ar L.length cr)).setCell ⟨w.heap.size, 4, none⟩ (.int .i64 0) = W3 := ⟨_, rfl⟩
        obtain ⟨p0, p1, p2, p3, p4, -⟩ := box5 (box5_store hbx5 hW3)
        have hszr := Hbr.out.size
        have hs0 := Hsz.out
        have Hbw := Lib.hid (below5 (Hb0.out.trans (hb05.mono (by omega))) hW3)
        have Hrow3 := Lib.hid ((rows5 hR (g := w.heap.size) (by omega) hW3).base (by omega : w.heap.size + 1 ≤ _))
        clear hbx5 hb05 hb5 hR hszr hs0
        go_wp2
        refine bodyPost_ret (v := replyV 0 false (.slice none 0 0) (.slice Ar L.length cr) 0) ?_ rfl ⟨_, rfl, Hrow3.out, Hbw.out⟩
        simp [results, Tryz.results27, go_sem, replyV, p0, p1, p2, p3, p4]
  · simp only [if_neg hp]
    have Efind : Hid (findT id X = -1) := Lib.hid (by unfold findT; rw [if_neg hp])
    clear hp
    go_enter Tryz.func27, Tryz.ntmps27
    go_wp2_with fail
    refine (find_any id H0.out).mono ?_
    rintro e w5 ⟨rfl, hb5⟩
    rw [Efind.out]
    have hbx5 := Hbx.out.below hb5 Hbx.out.lt
    obtain ⟨r0, r1, r2, r3, r4, k0, k1, k2, k3, k4⟩ := box5 hbx5
    obtain ⟨W3, hW3⟩ : ∃ W3, ((((w5.setCell ⟨w.heap.size, 0, none⟩ (.int .i64 7)).setCell ⟨w.heap.size, 1, none⟩ (.bool false)).setCell ⟨w.heap.size, 2, none⟩ (.slice none 0 0)).setCell ⟨w.heap.size, 3, none⟩ (.slice none 0 0)).setCell ⟨w.heap.size, 4, none⟩ (.int .i64 0) = W3 := ⟨_, rfl⟩
    obtain ⟨p0, p1, p2, p3, p4, -⟩ := box5 (box5_store hbx5 hW3)
    have hs0 := Hsz.out
    have Hbw := Lib.hid (below5 (Hb0.out.trans (hb5.mono (by omega))) hW3)
    clear hbx5 hb5 hs0
    go_wp2
    refine bodyPost_ret (v := replyV 7 false (.slice none 0 0) (.slice none 0 0) 0) ?_ rfl ⟨rfl, Hbw.out⟩
    simp [results, Tryz.results27, go_sem, replyV, p0, p1, p2, p3, p4]
end
end Go.Proofs.YtknfjajmnlpfjaaGreat

namespace Go.Proofs.YtknfjajmnlpfjaaGreat
open Go.RowKit
open Go.Lib (strCells compareBytes)

section
variable {B sb mb d : Nat} {ix : Value} {E : Kv (Value × List TVal)} {X : List Ix} {w : World}
theorem isSome_map (k : List UInt8) (E : Kv (Value × List TVal)) : (getK k (mapK (·.2) E)).isSome = (getK k E).isSome := by rw [mapK_get]; cases getK k E <;> rfl
theorem put_do (h : Store w B sb mb ix E X d) (s : ByteArray) (r : Value) (l : List TVal) (C : Nat) (hr : IsVals w C r l) (hC : C ≤ w.heap.size) (hl : GoodRec l) (hk : keyOk s.data.toList = true) (hE : E.length ≤ 1000) :
    Calls Tryz.prog 22 #[.pointer (some ⟨sb, 0, none⟩), .string s, r] w (DoPost B sb mb ix E (putK s.data.toList l (mapK (·.2) E)) (X.map xi) d ⟨0, (getK s.data.toList (mapK (·.2) E)).isSome, [], [], 0⟩ w) := by
  refine (put_any h s r l C hr hC hl hk hE).mono ?_
  rintro e w' ⟨v, rfl, hs, ho, hk3⟩
  refine ⟨_, ix, _, X, rfl, by rw [isSome_map]; exact ans_plain _ _ _ _ _, hs, mapK_put _ _ _ _, rfl, hk3, fun _ hg => .inl hg, fun p hp => ?_⟩
  rcases mem_putK hp with rfl | hp
  · exact .inr ho
  · exact .inl hp
def idxT (id : Int) (I : List (Int × List Int)) : Nat := match I with
  | [] => 0
  | x :: l => if x.1 = id then 0 else idxT id l + 1
theorem posI_idxT (id : Int) : ∀ (X : List Ix), posI id X = idxT id (X.map xi)
  | [] => rfl
  | x :: X => by
    have := posI_idxT id X
    simp only [posI, List.map_cons, idxT, xi, this]
def shownI (id : Int) (I : List (Int × List Int)) (M : Kv (List TVal)) : List (List UInt8) :=
  match I[idxT id I]? with
  | some x => (entsOf id x.2 M).mergeSort leB
  | none => []
theorem shownT_I (id : Int) (X : List Ix) (M : Kv (List TVal)) : shownT id X M = shownI id (X.map xi) M := by
  unfold shownT shownI
  rw [← posI_idxT, List.getElem?_map]
  cases X[posI id X]? <;> rfl
def queryA (id : Int) (I : List (Int × List Int)) (low high : List TVal) (lim : Nat) (M : Kv (List TVal)) : Ans :=
  if idxT id I < I.length then ⟨0, false, [], rowsT M (((shownI id I M).filterMap (hitK low high)).take lim), 0⟩ else ⟨7, false, [], [], 0⟩
theorem query_do (h : Store w B sb mb ix E X d) (id : Int) (lv hv : Value) (low high : List TVal) (lim : Nat) (C : Nat) (h1 : IsVals w C lv low) (h2 : IsVals w C hv high) (hC : C ≤ w.heap.size) (hE : E.length ≤ 1000) (hlim : lim ≤ 64) :
    Calls Tryz.prog 27 #[.pointer (some ⟨sb, 0, none⟩), .int .i64 id, lv, hv, .int .i64 (lim : Int)] w (DoPost B sb mb ix E (mapK (·.2) E) (X.map xi) d (queryA id (X.map xi) low high lim (mapK (·.2) E)) w) := by
  refine (query_any h id lv hv low high lim C h1 h2 hC hE hlim).mono ?_
  unfold QueryPost queryA
  rw [← posI_idxT, List.length_map]
  intro e w'
  by_cases hp : posI id X < X.length
  · simp only [if_pos hp]
    rintro ⟨v, rfl, hR, hb⟩
    rw [queryT, shownT_I] at hR
    exact do_same h ⟨_, _, rfl, World.ownsRow_nil _ _ _ _, hR.base (by omega)⟩ hb
  · simp only [if_neg hp]
    rintro ⟨rfl, hb⟩
    exact do_same h (ans_plain _ _ _ _ _) hb
theorem declare_do (h : Store w B sb mb ix E X d) (r : Value) (l : List Int) (C : Nat) (hr : IsInts w C r l) (hC : C ≤ w.heap.size) (hne : ∀ a n c, r = .slice (some a) n c → a.block ≠ sb) (hl : idxErr 1 l = 0) (hd : d < 6) (hX : X.length ≤ 6) :
    Calls Tryz.prog 28 #[.pointer (some ⟨sb, 0, none⟩), r] w (DoPost B sb mb ix E (mapK (·.2) E) (X.map xi ++ [((d : Int) + 1, l)]) (d + 1) ⟨0, false, [], [], (d : Int) + 1⟩ w) := by
  refine (declare_any h r l C hr hC hne hl hd hX).mono ?_
  rintro e w' ⟨ix', fv, rfl, hs, hk3, hx⟩
  exact ⟨_, ix', E, _, rfl, ans_plain _ _ _ _ _, hs, rfl, by rw [List.map_append]; rfl, hk3, hx, fun p hp => .inl hp⟩
end

theorem isVals_nil (w : World) (B : Nat) : IsVals w B (.slice none 0 0) [] := ⟨none, 0, 0, rfl, Nat.le_refl _, by simp [maxLen], HasVals.nil _ _ _, by simp⟩
theorem isInts_nil (w : World) (B : Nat) : IsInts w B (.slice none 0 0) [] := ⟨none, 0, 0, rfl, Nat.le_refl _, by simp [maxLen], ⟨rfl, Has.nil _ _ _⟩, by simp⟩
def oneRec : List TVal := [⟨1, 1, ⟨#[]⟩⟩]
theorem one_rowErr : rowErr oneRec = 0 := rowErr_ok.2 ⟨by decide, fun v hv => by
  simp only [oneRec, List.mem_singleton] at hv
  subst hv
  exact (goodV_iff _).2 (.inr (.inl ⟨rfl, rfl⟩))⟩
theorem one_good : GoodRec oneRec := ⟨by unfold recErr; rw [if_neg (by decide)]; exact one_rowErr, fun u hu => by
  simp only [oneRec, List.mem_singleton] at hu
  subst hu
  unfold InI64
  decide⟩
theorem one_show : showT 1 [0] oneRec = some oneRec := by
  unfold showT
  rw [if_pos ⟨by decide, one_good.1⟩]
  rfl
theorem one_lies : liesB oneRec [] [] = true := by
  have h : rowErr ([] : List TVal) = 0 := by decide
  unfold liesB
  rw [decide_eq_true (⟨one_rowErr, h, h⟩ : rowErr oneRec = 0 ∧ rowErr ([] : List TVal) = 0 ∧ rowErr ([] : List TVal) = 0)]
  decide
theorem awake_rows : queryA 1 ([] ++ [(((0 : Nat) : Int) + 1, [0])]) [] [] 5 (putK [107] oneRec []) = ⟨0, false, [], [([107], oneRec)], 0⟩ := by
  unfold queryA
  rw [if_pos (by decide)]
  have e : shownI 1 ([] ++ [(((0 : Nat) : Int) + 1, [0])]) (putK [107] oneRec []) = [entryT 1 oneRec [107]] := by
    unfold shownI
    show ((entsOf 1 [0] (putK [107] oneRec [])).mergeSort leB) = _
    have h : entsOf 1 [0] (putK [107] oneRec []) = [entryT 1 oneRec [107]] := by
      show (([([107], oneRec)] : Kv (List TVal)).filterMap fun p => entE 1 [0] p.1 p.2) = _
      rw [List.filterMap_cons]
      simp only [entE, one_show, Option.map_some, List.filterMap_nil]
    rw [h]
    exact List.mergeSort_singleton _
  rw [e]
  have h : [entryT 1 oneRec [107]].filterMap (hitK [] []) = [[107]] := by
    obtain ⟨h1, h2⟩ := show_entry (k := [107]) one_good one_show (by decide)
    rw [List.filterMap_cons, hitK_entry h1 h2, one_lies]
    rfl
  rw [h]
  rfl

theorem awake_check1 : checkT ⟨1, ⟨#[107]⟩, ⟨#[]⟩, oneRec, [], 0, [], [], [], 0, 0, 0⟩ = 0 := by
  show firstN [keyE ⟨#[107]⟩, recErr oneRec] = 0
  rw [one_good.1]
  rfl
theorem awake_check7 : checkT ⟨7, ⟨#[]⟩, ⟨#[]⟩, [], [], 0, [0], [], [], 0, 0, 0⟩ = 0 := by decide
theorem awake_check6 : checkT ⟨6, ⟨#[]⟩, ⟨#[]⟩, [], [], 1, [], [], [], 5, 0, 0⟩ = 0 := by decide

theorem do_query1 {B sb mb d : Nat} {ix : Value} {E : Kv (Value × List TVal)} {X : List Ix} {w : World} (h : Store w B sb mb ix E X d) (hE : E.length ≤ 1000) (hM : mapK (·.2) E = putK [107] oneRec []) (hI : X.map xi = [] ++ [(((0 : Nat) : Int) + 1, [0])]) :
    Calls Tryz.prog 9 #[.pointer (some ⟨sb, 0, none⟩), .agg #[.int .i64 6, .string ⟨#[]⟩, .string ⟨#[]⟩, .slice none 0 0, .slice none 0 0, .int .i64 1, .slice none 0 0, .slice none 0 0, .slice none 0 0, .int .i64 5, .int .i64 0, .int .i64 0]] w
      (DoPost B sb mb ix E (mapK (·.2) E) (X.map xi) d ⟨0, false, [], [([107], oneRec)], 0⟩ w) := by
  refine do_k6 h w.heap.size (Nat.le_refl _) ⟨#[]⟩ ⟨#[]⟩ [] [] [] [] 1 5 0 0 [] none none none none none 0 0 0 0 0 0 0 0 0 0
    ⟨_, _, _, _, _, rfl, isVals_nil _ _, isVals_nil _ _, isInts_nil _ _, isVals_nil _ _, isVals_nil _ _⟩ awake_check6 (fun wx hb => ?_)
  have hq := query_do (h.below hb) 1 (.slice none 0 0) (.slice none 0 0) [] [] 5 0 (isVals_nil _ _) (isVals_nil _ _) (Nat.zero_le _) hE (by decide)
  have e : queryA 1 (X.map xi) [] [] 5 (mapK (·.2) E) = ⟨0, false, [], [([107], oneRec)], 0⟩ := by rw [hM, hI]; exact awake_rows
  rw [e] at hq
  exact hq

set_option maxRecDepth 100000 in
set_option maxHeartbeats 6400000 in
theorem awake_any (w : World) : Calls Tryz.prog 4 #[] w fun e w' => e = .returned (.bool true) ∧ Below w.heap.size w w' := by
  go_enter Tryz.func4, Tryz.ntmps4
  go_wp2_with fail
  refine (new_any w w.heap.size (Nat.le_refl _)).mono ?_
  rintro e w1 ⟨rfl, hs1, hb1⟩
  obtain ⟨w2, hw2⟩ : ∃ w2, w1.alloc (.cells #[.int .i64 1, .int .i64 1, .string ⟨#[]⟩] 53) = w2 := ⟨_, rfl⟩
  have hb2 : Below w1.heap.size w1 w2 := hw2 ▸ below_alloc _ _
  have H2 := Lib.hid (hs1.below hb2)
  have Hb2 := Lib.hid (Below.then hb1 hb2)
  have hone : IsVals w2 w2.heap.size (.slice (some ⟨w1.heap.size, 0, none⟩) 1 1) oneRec :=
    ⟨_, 1, 1, rfl, Nat.le_refl _, by simp [maxLen], ⟨rfl, by rw [← hw2]; exact Has.more (vals_lit w1 1 1 ⟨#[]⟩) (by simp)⟩, one_good.2⟩
  have Hone := Lib.hid hone
  have hdo := do_k1 H2.out w2.heap.size (Nat.le_refl _) ⟨#[107]⟩ ⟨#[]⟩ oneRec [] [] [] 0 0 0 0 [] (some ⟨w1.heap.size, 0, none⟩) none none none none 1 1 0 0 0 0 0 0 0 0
    ⟨_, _, _, _, _, rfl, hone, isVals_nil _ _, isInts_nil _ _, isVals_nil _ _, isVals_nil _ _⟩ awake_check1
    (fun wx hb => put_do (H2.out.below hb) ⟨#[107]⟩ _ oneRec w2.heap.size (Hone.out.belowOf hb (Nat.le_refl _)) hb.size one_good (by decide) (by simp))
  have Hdo := Lib.hid hdo
  clear hs1 hb1 hb2 hone hdo
  have Hsb := Lib.hid (show w.heap.size + 1 < w2.heap.size from H2.out.lt.1)
  go_wp2_with fail
  refine Hdo.out.mono ?_
  rintro e w3 ⟨v, ix', E', X', rfl, ⟨rv, sv, rfl, hr, hR⟩, hS, hM, hI, hK, hx, -⟩
  obtain ⟨Ar, cr, rfl, -⟩ := own_sliceN hr
  obtain ⟨As, cs, rfl⟩ := hR.slice
  have hth : (getK ((⟨#[107]⟩ : ByteArray).data.toList) (mapK (·.2) ([] : Kv (Value × List TVal)))).isSome = false := rfl
  simp only [replyV, hth]
  have HK3 := Lib.hid hK
  obtain ⟨wA, hwA⟩ : ∃ wA, w3.alloc (.cells #[.int .i64 0, .bool false, .slice Ar 0 cr, .slice As 0 cs, .int .i64 0] 35) = wA := ⟨_, rfl⟩
  have hbxA : Box wA w3.heap.size 35 #[.int .i64 0, .bool false, .slice Ar 0 cr, .slice As 0 cs, .int .i64 0] := hwA ▸ Box.made _ _ _
  have hsA : wA.heap.size = w3.heap.size + 1 := by rw [← hwA]; simp
  have hbA : Below w3.heap.size w3 wA := hwA ▸ below_alloc _ _
  obtain ⟨w4, hw4⟩ : ∃ w4, wA.alloc (.cells #[.int .i64 0] 3) = w4 := ⟨_, rfl⟩
  have hb4 : Below wA.heap.size wA w4 := hw4 ▸ below_alloc _ _
  have H4 := Lib.hid ((hS.below hbA).below hb4)
  have HbxA := Lib.hid (hbxA.below hb4 hbxA.lt)
  have Hb4 := Lib.hid (Below.then hbA hb4)
  have HA3 : Hid (w3.heap.size < wA.heap.size ∧ w.heap.size + 1 < w3.heap.size) := Lib.hid ⟨hbxA.lt, hS.lt.1⟩
  have hX' : X' = [] := by
    have h := congrArg List.length hI
    simp at h
    exact h
  subst hX'
  have hE' : E'.length = 1 := by
    have h := congrArg List.length hM
    simpa [mapK, putK] using h
  have hint : IsInts w4 w4.heap.size (.slice (some ⟨w3.heap.size + 1, 0, none⟩) 1 1) [0] :=
    ⟨_, 1, 1, rfl, Nat.le_refl _, by simp [maxLen], by rw [← hw4]; exact ⟨rfl, Has.more (ints_lit wA #[.int .i64 0] [0] 3 rfl _ hsA).2 (by simp [hsA])⟩, by simp [InI64]⟩
  have Hint := Lib.hid hint
  have hdo7 := do_k7 H4.out w4.heap.size (Nat.le_refl _) ⟨#[]⟩ ⟨#[]⟩ [] [] [] [] 0 0 0 0 [0] none none (some ⟨w3.heap.size + 1, 0, none⟩) none none 0 0 0 0 1 1 0 0 0 0
    ⟨_, _, _, _, _, rfl, isVals_nil _ _, isVals_nil _ _, hint, isVals_nil _ _, isVals_nil _ _⟩ awake_check7
    (fun wx hb => declare_do (H4.out.below hb) _ [0] w4.heap.size (Hint.out.belowOf hb (Nat.le_refl _)) hb.size (fun a n c e => by
      injection e with e1 e2 e3
      injection e1 with e1
      have h1 := HA3.out
      show a.block ≠ _
      rw [← e1]
      show w3.heap.size + 1 ≠ _
      omega) (by decide) (by omega) (by simp))
  have Hdo7 := Lib.hid hdo7
  have HwA := Lib.hid hwA
  have Hw4 := Lib.hid hw4
  clear hwA hw4
  clear hsA
  have HM := Lib.hid hM
  have HE' := Lib.hid hE'
  clear hdo7 hint hb4 hbA hbxA hS hR hr hM hI hx hE' hK
  go_wp2_with fail
  rw [HwA.out, Hw4.out]
  refine Hdo7.out.mono ?_
  rintro e w5 ⟨v, ix2, E2, X2, rfl, ⟨rv, sv, rfl, hr, hR⟩, hS, hM, hI, hK, hx, -⟩
  obtain ⟨Ar2, cr2, rfl, -⟩ := own_sliceN hr
  obtain ⟨As2, cs2, rfl⟩ := hR.slice
  simp only [replyV]
  have hbxA5 : Box w5 w3.heap.size 35 _ := (hK.block _ HbxA.out.lt (by have := HA3.out; omega) (by have := HA3.out; have := H4.out.lt.2; omega) (fun e => by
    obtain ⟨cur, hc⟩ := own_type H4.out.irow e.symm
    have h2 := HbxA.out
    unfold Box at h2
    rw [h2] at hc
    injection hc with hc; injection hc with _ hc; exact absurd hc (by decide))).trans HbxA.out
  obtain ⟨w6, hw6⟩ : ∃ w6, w5.alloc (.cells #[.int .i64 0, .bool false, .slice Ar2 0 cr2, .slice As2 0 cs2, .int .i64 1] 35) = w6 := ⟨_, rfl⟩
  have hb6 : Below w5.heap.size w5 w6 := hw6 ▸ below_alloc _ _
  have hbxB : Box w6 w5.heap.size 35 #[.int .i64 0, .bool false, .slice Ar2 0 cr2, .slice As2 0 cs2, .int .i64 1] := hw6 ▸ Box.made _ _ _
  have H6 := Lib.hid (hS.below hb6)
  have HbxB := Lib.hid hbxB
  have HbxA6 := Lib.hid (hbxA5.below hb6 hbxA5.lt)
  have Hw6 := Lib.hid hw6
  have HM2 := Lib.hid (hM.trans HM.out)
  have HI2 := Lib.hid hI
  have Hb6 := Lib.hid hb6
  have HB6 : Hid (w5.heap.size < w6.heap.size ∧ w4.heap.size ≤ w5.heap.size) := Lib.hid ⟨hbxB.lt, hK.size⟩
  have hE2 : E2.length = 1 := by
    have h := congrArg List.length HM2.out
    rw [mapK, List.length_map] at h
    exact h
  have HK7 := Lib.hid hK
  have Hdo6 := Lib.hid (do_query1 H6.out (by omega) HM2.out HI2.out)
  clear hw6 hS hM hI hx hR hr hbxB hbxA5 hb6 hE2 hK
  go_wp2_with fail
  try rw [Hw6.out]
  refine Hdo6.out.mono ?_
  rintro e w7 ⟨v, ix3, E3, X3, rfl, ⟨rv, sv, rfl, hr, rs, ⟨hrow, -⟩, hmap⟩, -, -, -, hK, -, -⟩
  obtain ⟨Ar3, cr3, rfl, -⟩ := own_sliceN hr
  have hrs : rs.length = 1 := by
    have h := congrArg List.length hmap
    rw [mapK, List.length_map] at h
    exact h
  obtain ⟨p, rfl⟩ := List.length_eq_one_iff.1 hrs
  have hp : p.1 = [107] := by
    simp only [mapK, List.map_cons, List.map_nil, List.cons.injEq, Prod.mk.injEq] at hmap
    exact hmap.1.1
  obtain ⟨As3, cs3, rfl, -, -, hcells⟩ := own_sliceN hrow
  obtain ⟨a, rfl, hab, hc0⟩ := hcells.cell (k := 0) (by simp)
  have ha0 : a.add 0 = a := by unfold Addr.add; simp
  rw [ha0] at hc0
  have hc : w7.cell? a = some (.string ⟨#[107]⟩) := by rw [hc0]; simp [rowCells, hp, encStr]
  have hkA : ∀ i, i < w6.heap.size → i ≠ w.heap.size + 1 → i ≠ w.heap.size → (∃ cs, Box w6 i 35 cs) → w7.heap[i]? = w6.heap[i]? := fun i h1 h2 h3 ⟨cs, hb⟩ => hK.block i h1 h2 h3 (fun e => by
    obtain ⟨cur, hc⟩ := own_type H6.out.irow e.symm
    unfold Box at hb
    rw [hb] at hc
    injection hc with hc; injection hc with _ hc; exact absurd hc (by decide))
  have bA7 := (show Box w7 _ _ _ from (hkA _ HbxA6.out.lt (by have := HA3.out; omega) (by have := HA3.out; omega) ⟨_, HbxA6.out⟩).trans HbxA6.out)
  have bB7 := (show Box w7 _ _ _ from (hkA _ HbxB.out.lt (by have := HA3.out; have := HB6.out; have := Hb4.out.size; omega) (by have := HA3.out; have := HB6.out; have := Hb4.out.size; omega) ⟨_, HbxB.out⟩).trans HbxB.out)
  obtain ⟨w8, hw8⟩ : ∃ w8, w7.alloc (.cells #[.int .i64 0, .bool false, .slice Ar3 0 cr3, .slice (some a) 1 cs3, .int .i64 0] 35) = w8 := ⟨_, rfl⟩
  have hb8 : Below w7.heap.size w7 w8 := hw8 ▸ below_alloc _ _
  have bC8 : Box w8 w7.heap.size 35 #[.int .i64 0, .bool false, .slice Ar3 0 cr3, .slice (some a) 1 cs3, .int .i64 0] := hw8 ▸ Box.made _ _ _
  have x1 := (bA7.below hb8 bA7.lt).cell 1
  have x2 := (bB7.below hb8 bB7.lt).cell 4
  have x3 := bC8.cell 3
  have x4 := keepcell hb8 hc
  have Hb8 : Hid (Below w.heap.size w w8) := Lib.hid ((((Hb2.out.trans ((HK3.out.below H2.out (by have := H2.out.lt.2; omega)).mono (Nat.le_refl _))).trans (Hb4.out.mono (by have := HA3.out; omega))).trans (((HK7.out.below H4.out (by have := H4.out.lt.2; omega))).mono (Nat.le_refl _))).trans (Hb6.out.mono (by have := HA3.out; have := HB6.out; have := Hb4.out.size; omega)) |>.trans ((hK.below H6.out (by have := H6.out.lt.2; omega)).mono (Nat.le_refl _)) |>.trans (hb8.mono (by have := hK.size; have := HA3.out; have := HB6.out; have := Hb4.out.size; omega)))
  clear hc0 hcells hrow hr hmap hrs hkA bA7 bB7 bC8 hb8 hK hab hc
  subst hw8
  simp only [replyV, List.length_nil, List.length_singleton]
  go_wp2
  go_ret
  exact ⟨rfl, Hb8.out⟩
end Go.Proofs.YtknfjajmnlpfjaaGreat

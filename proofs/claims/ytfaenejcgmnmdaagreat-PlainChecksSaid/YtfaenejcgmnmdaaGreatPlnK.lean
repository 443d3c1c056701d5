/- declare: an index more, with the next number. Condition: its fields are right, and in memory. -/
import Derived.Test.YtfaenejcgmnmdaaGreatPlnJ
import Derived.Test.YtfaenejcgmnmdaaGreatStep
import Derived.Deep.RegionLaw
namespace Go.Proofs.YtfaenejcgmnmdaaGreat
open Go.RowKit
open Go.Lib (strCells compareBytes)

/-- five stores into block g: another block stays -/
theorem heap5 {w W : World} {g i : Nat} {x' y' z' u' v' : Value} (hi : i ≠ g) (hW : ((((w.setCell ⟨g, 0, none⟩ x').setCell ⟨g, 1, none⟩ y').setCell ⟨g, 2, none⟩ z').setCell ⟨g, 3, none⟩ u').setCell ⟨g, 4, none⟩ v' = W) : W.heap[i]? = w.heap[i]? := by
  have hig : ∀ (j : Nat), i ≠ (⟨g, j, none⟩ : Addr).block := fun j => hi
  rw [← hW, Below.heap_setCell _ _ _ _ (hig 4), Below.heap_setCell _ _ _ _ (hig 3), Below.heap_setCell _ _ _ _ (hig 2), Below.heap_setCell _ _ _ _ (hig 1), Below.heap_setCell _ _ _ _ (hig 0)]
theorem same5 {w W : World} {g : Nat} {x' y' z' u' v' : Value} (hW : ((((w.setCell ⟨g, 0, none⟩ x').setCell ⟨g, 1, none⟩ y').setCell ⟨g, 2, none⟩ z').setCell ⟨g, 3, none⟩ u').setCell ⟨g, 4, none⟩ v' = W) : W.os = w.os ∧ W.tape = w.tape ∧ W.output = w.output ∧ W.heap.size = w.heap.size := by
  have h := below5 (Below.refl g w) hW
  exact ⟨h.os, h.tape, h.output, by rw [← hW]; simp [World.setCell]⟩

/-- one more index at the end -/
theorem ix_snoc {X : List Ix} {d : Nat} {x : Ix} (h1 : X.Pairwise fun x y => x.num < y.num) (h2 : ∀ x ∈ X, x.num ≤ d) (hx : x.num = (d : Int) + 1) : (X ++ [x]).Pairwise fun x y => x.num < y.num := by
  refine List.pairwise_append.2 ⟨h1, by simp, fun a ha b hb => ?_⟩
  simp only [List.mem_singleton] at hb
  subst hb
  have := h2 a ha
  omega

/-- the store with another row of indexes, in a world that keeps all else of it -/
theorem Store.newIx {w W : World} {B sb mb d d' : Nat} {ix ix' : Value} {E : Kv (Value × List TVal)} {X X' : List Ix} (h : Store w B sb mb ix E X d) (hbox : Box W sb 79 #[.map (some mb), ix', .int .i64 d'])
    (hk : ∀ i, i < w.heap.size → i ≠ sb → some i ≠ ix.ownBlock → W.heap[i]? = w.heap[i]?) (hrow : W.ownsRow B 58 2 ix' X'.length (ixCells X')) (hf : ∀ x ∈ X', W.ownsRow B 3 1 x.v x.fs.length (intCells x.fs))
    (hi : X'.Pairwise fun x y => x.num < y.num) (hn : ∀ x ∈ X', 1 ≤ x.num ∧ x.num ≤ d' ∧ idxErr 1 x.fs = 0 ∧ ∀ n ∈ x.fs, InI64 n) (hd : d' ≤ 6) : Store W B sb mb ix' E X' d' := by
  have hap := h.apart
  refine { h with
    box := hbox
    own := map_keep h.own (hk mb h.lt.2 (fun e => hap.1 e.symm) fun e => (hap.2 mb e.symm).2 rfl)
    recs := fun p hp => own_keep (h.recs p hp) fun i hi => hk i ((h.recs p hp).lt i hi).2 (fun e => ?_) fun e => ?_
    irow := hrow
    flds := hf
    ids := hi
    nums := hn
    most := hd }
  · obtain ⟨cur, hc⟩ := own_type (h.recs p hp) hi
    have hb := h.box
    unfold Box at hb
    rw [e, hb] at hc
    injection hc with hc; injection hc with _ hc; exact absurd hc (by decide)
  · obtain ⟨cur, hc⟩ := own_type (h.recs p hp) hi
    obtain ⟨cur', hc'⟩ := own_type h.irow e.symm
    rw [hc'] at hc
    injection hc with hc; injection hc with _ hc; exact absurd hc (by decide)
/-- a row of fields stays where the store's own block and the indexes' turn -/
theorem Store.fldKept {w W : World} {B sb mb d : Nat} {ix : Value} {E : Kv (Value × List TVal)} {X : List Ix} (h : Store w B sb mb ix E X d) (hk : ∀ i, i < w.heap.size → i ≠ sb → some i ≠ ix.ownBlock → W.heap[i]? = w.heap[i]?) {x : Ix} (hx : x ∈ X) : W.ownsRow B 3 1 x.v x.fs.length (intCells x.fs) := by
  refine own_keep (h.flds x hx) fun i hi => hk i ((h.flds x hx).lt i hi).2 (fun e => ?_) fun e => ?_
  · obtain ⟨cur, hc⟩ := own_type (h.flds x hx) hi
    have hb := h.box
    unfold Box at hb
    rw [e, hb] at hc
    injection hc with hc; injection hc with _ hc; exact absurd hc (by decide)
  · obtain ⟨cur, hc⟩ := own_type (h.flds x hx) hi
    obtain ⟨cur', hc'⟩ := own_type h.irow e.symm
    rw [hc'] at hc
    injection hc with hc; injection hc with _ hc; exact absurd hc (by decide)

theorem decl_end {w w0 w1 wL wA W3 : World} {B sb mb d : Nat} {ix ix' fv : Value} {E : Kv (Value × List TVal)} {X : List Ix} {l : List Int} {x' y' z' u' v' : Value} (h : Store w B sb mb ix E X d) (hb0 : Below w.heap.size w w0) (hk1 : ∀ i, i ≠ sb → w1.heap[i]? = w0.heap[i]?) (hs1 : w1.heap.size = w.heap.size + 1)
    (hsame : w1.os = w.os ∧ w1.tape = w.tape ∧ w1.output = w.output) (bL : Below w1.heap.size w1 wL) (gA : wL.grownBy wA ix.ownBlock) (oA : wA.ownsRow B 58 2 ix' (X.length + 1) (ixCells X ++ ixCells [⟨(d : Int) + 1, fv, l⟩])) (zA : ix'.ownBlock = ix.ownBlock ∨ ix'.ownBlock = some wL.heap.size)
    (bxA : Box wA sb 79 #[.map (some mb), ix, .int .i64 ((d : Int) + 1)]) (oF : wL.ownsRow w1.heap.size 3 1 fv l.length (intCells l))
    (hW : (((((wA.setCell ⟨sb, 1, none⟩ ix').setCell ⟨w.heap.size, 0, none⟩ x').setCell ⟨w.heap.size, 1, none⟩ y').setCell ⟨w.heap.size, 2, none⟩ z').setCell ⟨w.heap.size, 3, none⟩ u').setCell ⟨w.heap.size, 4, none⟩ v' = W3) (hl : idxErr 1 l = 0) (hin : ∀ x ∈ l, InI64 x) (hd : d < 6) :
    Store W3 B sb mb ix' E (X ++ [⟨(d : Int) + 1, fv, l⟩]) (d + 1) ∧ Kept3 sb mb ix w W3 ∧ ∀ g, ix'.ownBlock = some g → ix.ownBlock = some g ∨ w.heap.size ≤ g := by
  have hsb := h.lt.1
  have hixlt : ∀ g, ix.ownBlock = some g → g ≠ sb ∧ g < w.heap.size := fun g hg => ⟨(h.apart.2 g hg).1, (h.irow.lt g hg).2⟩
  have h5 : ∀ i, i ≠ w.heap.size → i ≠ sb → W3.heap[i]? = wA.heap[i]? := fun i h1 h2 => (heap5 h1 hW).trans (Below.heap_setCell _ _ _ _ h2)
  have hk : ∀ i, i < w.heap.size → i ≠ sb → some i ≠ ix.ownBlock → W3.heap[i]? = w.heap[i]? := fun i hi h1 h2 => by
    have hi1 : i < w1.heap.size := by omega
    rw [h5 i (by omega) h1, gA.block i (Nat.lt_of_lt_of_le hi1 bL.size) h2, bL.block i hi1, hk1 i h1, hb0.block i hi]
  have hszA : w1.heap.size ≤ wA.heap.size := Nat.le_trans bL.size gA.size
  have hix' : ∀ g, ix'.ownBlock = some g → ix.ownBlock = some g ∨ w.heap.size + 1 ≤ g := fun g hg => by
    rcases zA with e | e
    · exact .inl (e ▸ hg)
    · rw [e] at hg
      injection hg with hg
      have := bL.size
      exact .inr (by omega)
  have hrow : W3.ownsRow B 58 2 ix' (X ++ [(⟨(d : Int) + 1, fv, l⟩ : Ix)]).length (ixCells (X ++ [⟨(d : Int) + 1, fv, l⟩])) := by
    rw [ixCells_app, List.length_append]
    refine own_keep oA fun g hg => ?_
    rcases hix' g hg with e | e
    · exact h5 g (by have := (hixlt g e).2; omega) (hixlt g e).1
    · exact h5 g (by omega) (by omega)
  have hfv : W3.ownsRow B 3 1 fv l.length (intCells l) := by
    have h1 := own_keep oF (w' := W3) fun g hg => by
      have hg1 := (oF.lt g hg)
      rw [h5 g (by omega) (by omega)]
      exact gA.block g hg1.2 (fun e => by have := (hixlt g e.symm).2; omega)
    exact own_base h1 (by have := h.sB; omega)
  have hsame5 := same5 hW
  have hbox : Box W3 sb 79 #[.map (some mb), ix', .int .i64 ((d + 1 : Nat) : Int)] := (heap5 (by omega) hW).trans (bxA.set_ 1 ix')
  refine ⟨h.newIx hbox hk hrow (fun x hx => ?_) (ix_snoc h.ids (fun x hx => (h.nums x hx).2.1) rfl) (fun x hx => ?_) hd, ?_, fun g hg => (hix' g hg).imp id (fun h => by omega)⟩
  · rcases List.mem_append.1 hx with hx | hx
    · exact h.fldKept hk hx
    · simp only [List.mem_singleton] at hx
      subst hx
      exact hfv
  · rcases List.mem_append.1 hx with hx | hx
    · have := h.nums x hx
      exact ⟨this.1, by omega, this.2.2⟩
    · simp only [List.mem_singleton] at hx
      subst hx
      exact ⟨by show (1 : Int) ≤ (d : Int) + 1; omega, by show (d : Int) + 1 ≤ _; omega, hl, hin⟩
  · refine ⟨hsame5.1.trans (gA.os.trans (bL.os.trans hsame.1)), hsame5.2.1.trans (gA.tape.trans (bL.tape.trans hsame.2.1)), hsame5.2.2.1.trans (gA.output.trans (bL.output.trans hsame.2.2)), ?_, fun i hi h1 _ h3 => hk i hi h1 h3⟩
    have : W3.heap.size = wA.heap.size := hsame5.2.2.2.trans (by simp [World.setCell])
    omega

section
variable {B sb mb d : Nat} {ix : Value} {E : Kv (Value × List TVal)} {X : List Ix} {w : World}
set_option maxRecDepth 100000 in
set_option maxHeartbeats 3200000 in
theorem declare_any (h : Store w B sb mb ix E X d) (r : Value) (l : List Int) (C : Nat) (hr : IsInts w C r l) (hC : C ≤ w.heap.size) (hne : ∀ a n c, r = .slice (some a) n c → a.block ≠ sb) (hl : idxErr 1 l = 0) (hd : d < 6) (hX : X.length ≤ 6) :
    Calls Tryz.prog 44 #[.pointer (some ⟨sb, 0, none⟩), r] w fun e w' => ∃ ix' fv, e = .returned (replyV 0 false (.slice none 0 0) (.slice none 0 0) ((d : Int) + 1)) ∧ Store w' B sb mb ix' E (X ++ [⟨(d : Int) + 1, fv, l⟩]) (d + 1) ∧ Kept3 sb mb ix w w' ∧ ∀ g, ix'.ownBlock = some g → ix.ownBlock = some g ∨ w.heap.size ≤ g := by
  obtain ⟨A, n, c, rfl, h1, h2, h3, h4⟩ := hr
  have hCw := hC
  have hne' : ∀ a, A = some a → a.block ≠ sb := fun a e => hne a n c (by rw [e])
  have hn : 1 ≤ n ∧ n ≤ 2 := by
    have := h3.1
    unfold idxErr at hl
    by_cases e1 : isIdB 1 = false ∨ l.length = 0
    · rw [if_pos e1] at hl; omega
    · rw [if_neg e1] at hl
      by_cases e2 : 2 < l.length
      · rw [if_pos e2] at hl; omega
      · have : ¬ l.length = 0 := fun e => e1 (.inr e)
        omega
  have Hrec : Hid (∀ wx, (C ≤ wx.heap.size ∧ ∀ p : Addr, p.block < C → p.block ≠ sb → wx.cell? p = w.cell? p) → Calls Tryz.prog 57 #[.slice A n c] wx fun e w' => ∃ v, e = .returned v ∧ w'.ownsRow wx.heap.size 3 1 v l.length (intCells l) ∧ Below wx.heap.size wx w') := Lib.hid (fun wx hb =>
    cloneInts_any A n c C l wx ⟨h3.1, h3.2.1, fun k u hu => by
      obtain ⟨a, e, hab, hc⟩ := h3.2.2 k u hu
      exact ⟨a, e, hab, (hb.2 _ (by rw [addr_block]; exact hab) (by rw [addr_block]; exact hne' a e)).trans hc⟩⟩ hn.1 (by omega) hb.1)
  have Hin := Lib.hid (show ∀ x ∈ l, InI64 x from h4)
  clear h1 h2 h3 h4 hn hne hne'
  obtain ⟨w0, hw0⟩ : ∃ w0, w.alloc (.cells #[.int .i64 0, .bool false, .slice none 0 0, .slice none 0 0, .int .i64 0] 40) = w0 := ⟨_, rfl⟩
  have hb0 : Below w.heap.size w w0 := hw0 ▸ below_alloc _ _
  have hbx : Box w0 w.heap.size 40 #[.int .i64 0, .bool false, .slice none 0 0, .slice none 0 0, .int .i64 0] := hw0 ▸ Box.made _ _ _
  have hsz : w0.heap.size = w.heap.size + 1 := by rw [← hw0]; simp
  have h0 := h.below hb0
  obtain ⟨q0, q1, q2, f0, f1, f2⟩ := h0.cells
  obtain ⟨Ai, ci, rfl, -⟩ := own_sliceN h.irow
  -- the world behind 's.declared++'
  obtain ⟨w1, hw1⟩ : ∃ w1, w0.setCell ⟨sb, 2, none⟩ (.int .i64 ((d : Int) + 1)) = w1 := ⟨_, rfl⟩
  have hbx1 : Box w1 sb 79 #[.map (some mb), .slice Ai X.length ci, .int .i64 ((d : Int) + 1)] := hw1 ▸ h0.box.set_ 2 _
  have hk1 : ∀ i, i ≠ sb → w1.heap[i]? = w0.heap[i]? := fun i hi => by rw [← hw1]; exact Below.heap_setCell _ _ _ _ hi
  have hs1 : w1.heap.size = w.heap.size + 1 := by rw [← hw1, ← hsz]; simp [World.setCell]
  have hC1 : C ≤ w1.heap.size ∧ ∀ p : Addr, p.block < C → p.block ≠ sb → w1.cell? p = w.cell? p := ⟨by omega, fun p h1 h2 => by
    rw [World.cell?_of_block (hk1 p.block h2), hb0.cell (by omega)]⟩
  have hsame1 : w1.os = w.os ∧ w1.tape = w.tape ∧ w1.output = w.output := by
    rw [← hw1]; exact ⟨hb0.os, hb0.tape, hb0.output⟩
  have hir1 : w1.ownsRow B 58 2 (.slice Ai X.length ci) X.length (ixCells X) := own_keep h0.irow fun i hi => hk1 i (h0.apart.2 i hi).1
  have c1 := hbx1.cell 1
  have c2 := hbx1.cell 2
  have g1 := hbx1.frozen 1
  have g2 := hbx1.frozen 2
  have hdb : ((d : Int) == 6) = false := by simp; omega
  have hnb : ∀ g, (Value.slice Ai X.length ci).ownBlock = some g → g ≠ sb ∧ g < w.heap.size := fun g hg => ⟨(h.apart.2 g hg).1, (h.irow.lt g hg).2⟩
  have hgsb : w.heap.size ≠ sb := by have := h.lt.1; omega
  have Hbx := Lib.hid hbx
  have Hb0 := Lib.hid hb0
  have Hsz := Lib.hid hsz
  have H := Lib.hid h
  have Hbx1 := Lib.hid hbx1
  have Hk1 := Lib.hid hk1
  have Hs1 := Lib.hid hs1
  have HC1 := Lib.hid hC1
  have Hsame1 := Lib.hid hsame1
  have Hir1 := Lib.hid hir1
  have Hnb := Lib.hid hnb
  have Hl := Lib.hid hl
  have Hgsb := Lib.hid hgsb
  clear hb0 hbx hsz h0 h hbx1 hk1 hs1 hC1 hsame1 hir1 hnb hl hgsb f0 q0
  go_enter Tryz.func44, Tryz.ntmps44
  go_wp2
  go_region_law (first | (refine step_append_hasN (by rfl) _ _ _ (by rfl) 58 idx_elem (by omega) Tryz.underlying51 (by rfl) irL (by rfl) litL (by intro u hu; simp [ixCells] at hu; rcases hu with rfl | rfl <;> rfl) (by simp only [maxLen]; omega) (by omega) (Nat.le_trans H.out.sB (by have := bxL.lt; omega)) ?_; intro ix' wA oA gA zA; obtain ⟨Ax, cx, rfl, -⟩ := own_sliceN oA; have bxA := bxL.grown gA (fun e => (Hnb.out _ e.symm).1 rfl); have c1A := bxA.cell 1; have f1A := bxA.frozen 1) | (go_simp; go_wp2_with (first | (go_at_call 57; refine (Hrec.out _ ?_).mono ?_; exact HC1.out; rintro e wR ⟨fv, rfl, oR, bR⟩; obtain ⟨Av, cv, rfl, -⟩ := own_slice oR; have bR1 : Below w1.heap.size w1 wR := Below.then (below_drew _) bR; have bxR := Hbx1.out.below bR1 Hbx1.out.lt; have c1R := bxR.cell 1; have c2R := bxR.cell 2; have irR := own_belowN Hir1.out bR1; obtain ⟨wL, hwL⟩ : ∃ wL, wR.alloc (.cells #[.int .i64 ((d : Int) + 1), .slice Av l.length cv] 58) = wL := ⟨_, rfl⟩; have bL : Below wR.heap.size wR wL := hwL ▸ below_alloc _ _; have bxL := bxR.below bL bxR.lt; have c1L := bxL.cell 1; have litL : Has wL (wR.heap.size + 1) (some ⟨wR.heap.size, 0, none⟩) (1 * 2) (ixCells [⟨(d : Int) + 1, .slice Av l.length cv, l⟩]) := hwL ▸ Has.lit wR #[.int .i64 ((d : Int) + 1), .slice Av l.length cv] _; have irL := own_belowN irR bL))))
  all_goals
    have bx5 := bxA.set_ 1 (.slice Ax (X.length + 1) cx)
    have c25 := bx5.cell 2
    have hbr : Box (wA.setCell ⟨sb, 1, none⟩ (.slice Ax (X.length + 1) cx)) w.heap.size 40 #[.int .i64 0, .bool false, .slice none 0 0, .slice none 0 0, .int .i64 0] :=
      Box.far ((((show Box w1 _ _ _ from (Hk1.out _ Hgsb.out).trans Hbx.out).below (Below.then bR1 bL) (by rw [Hs1.out]; omega))).grown gA (fun e => by have := (Hnb.out _ e.symm).2; omega)) (fun e => Hgsb.out e) _
    obtain ⟨r0, r1, r2, r3, r4, k0, k1, k2, k3, k4⟩ := box5 hbr
    obtain ⟨W3, hW3⟩ : ∃ W3, (((((wA.setCell ⟨sb, 1, none⟩ (.slice Ax (X.length + 1) cx)).setCell ⟨w.heap.size, 0, none⟩ (.int .i64 0)).setCell ⟨w.heap.size, 1, none⟩ (.bool false)).setCell ⟨w.heap.size, 2, none⟩ (.slice none 0 0)).setCell ⟨w.heap.size, 3, none⟩ (.slice none 0 0)).setCell ⟨w.heap.size, 4, none⟩ (.int .i64 ((d : Int) + 1)) = W3 := ⟨_, rfl⟩
    obtain ⟨p0, p1, p2, p3, p4, -⟩ := box5 (box5_store hbr hW3)
    have Hend := Lib.hid (decl_end H.out Hb0.out Hk1.out Hs1.out Hsame1.out (Below.then bR1 bL) gA oA zA bxA (own_base (own_below oR bL) (by simp)) hW3 Hl.out Hin.out hd)
    clear bx5 hbr oA gA zA bxA c1A f1A irL litL c1L bxL bL irR c2R c1R bxR bR1 oR bR
    go_wp2
    refine bodyPost_ret (v := replyV 0 false (.slice none 0 0) (.slice none 0 0) ((d : Int) + 1)) ?_ rfl ⟨_, _, rfl, Hend.out⟩
    simp [results, Tryz.results44, go_sem, replyV, p0, p1, p2, p3, p4]
end
end Go.Proofs.YtfaenejcgmnmdaaGreat

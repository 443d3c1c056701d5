/- put: a record stands under its key then. Condition: the record and its key are right, and in memory. -/
import Derived.Test.YtknfjajmnlpfjaaGreatPlnH
namespace Go.Proofs.YtknfjajmnlpfjaaGreat
open Go.RowKit
open Go.Lib (strCells compareBytes)

section
variable {P : Program} {w : World}
theorem step_mapUpdate {ops : Array Oper} {o : Oper} {a : Act} {K : Act → World → Prop} {Q : Exit → Act → World → Prop} {E : Prop} (hgd : o.guard = none) (m x v : Operand) (t : TypeId) (ho : o.op = Op.mapUpdate t m x v)
    (k e : TypeId) (Kd : Maps.Keyed P k) (ht : P.underlying t = some (.map k e)) {b n : Nat} {D : DataW Value} (hm : a.eval m = .map (some b)) (hown : w.ownsMap P k Rv b n D) (hn : n < maxLen) {key val : Value} {kl : Lit}
    (hx : a.eval x = key) (hv : a.eval v = val) (hkey : keyOf P k key = some kl)
    (h : ∀ w', w'.ownsMap P k Rv b (n + 1) (D.put kl (.held val)) → w.mapTurned w' b → K (a.put o.dst undef) w') :
    if Region.wanted o (yielded ops a.tmps) = true then Oper.wp P o a w K Q else E := by
  have hw : Region.wanted o (yielded ops a.tmps) = true := by simp [Region.wanted, hgd]
  rw [if_pos hw]
  obtain ⟨w', hrun, r1, r2⟩ := hown.store Kd ht hn hkey (R := Rv) (val := val) (d := .held val) (ps := []) rfl
  unfold Oper.wp
  simp [execOp, ho, hm, hx, hv, hrun, Result.andThen]
  exact h w' r1 r2
end

theorem turned_cell {w w' : World} {b : Nat} {p : Addr} {u : Value} (h : w.mapTurned w' b) (hc : w.cell? p = some u) : w'.cell? p = some u := by
  obtain ⟨es, c, es', c', hb, rfl⟩ := h
  have hne : p.block ≠ b := fun e => by
    have : w.cell? p = none := by
      simp [World.cell?, e, hb]
    rw [this] at hc
    cases hc
  refine (World.cell?_of_block ?_).trans hc
  exact ChangeMaps.heap_setBlock_other hb _ hne
theorem turned_box {w w' : World} {b g : Nat} {t : TypeId} {cs : Array Value} (h : w.mapTurned w' b) (hb : Box w g t cs) : Box w' g t cs := by
  obtain ⟨es, c, es', c', hm, rfl⟩ := h
  have hne : g ≠ b := fun e => by
    unfold Box at hb
    rw [e, hm] at hb
    cases hb
  exact (ChangeMaps.heap_setBlock_other hm _ hne).trans hb
theorem turned_own {w w' : World} {b B m size : Nat} {e : TypeId} {v : Value} {xs : List Value} (h : w.mapTurned w' b) (ho : w.ownsRow B e size v m xs) : w'.ownsRow B e size v m xs := by
  obtain ⟨es, c, es', c', hm, rfl⟩ := h
  refine own_keep ho fun g hg => ?_
  obtain ⟨cur, hc⟩ := own_type ho hg
  exact ChangeMaps.heap_setBlock_other hm _ (fun e => by rw [e, hm] at hc; cases hc)

/-- the world behind the store into the map -/
def Put0 (w0 wM : World) (mb : Nat) (v : Value) (l : List TVal) : Prop :=
  ∃ wb, Below w0.heap.size w0 wb ∧ wb.mapTurned wM mb ∧ wb.ownsRow w0.heap.size 53 3 v l.length (valCells l)
def PutPost (B sb mb : Nat) (ix : Value) (E : Kv (Value × List TVal)) (X : List Ix) (d : Nat) (k : List UInt8) (l : List TVal) (there : Bool) (w : World) (e : Ending) (w' : World) : Prop :=
  ∃ v, e = .returned (replyV 0 there (.slice none 0 0) (.slice none 0 0) 0) ∧ Store w' B sb mb ix (putK k (v, l) E) X d ∧ w'.ownsRow w.heap.size 53 3 v l.length (valCells l) ∧ Kept3 sb mb ix w w'

theorem put_end {B sb mb d g : Nat} {ix v : Value} {E : Kv (Value × List TVal)} {X : List Ix} {w w0 wM W3 : World} {k : List UInt8} {l : List TVal} {x' y' z' u' v' : Value} (hb0 : Below w.heap.size w w0) (hg : w.heap.size = g) (hsz : w0.heap.size = g + 1)
    (hs : Store w B sb mb ix E X d) (hM : wM.ownsMap Tryz.prog 9 Rv mb (E.length + 1) ((dmap (·.1) E).put (.string k) (.held v))) (hp : Put0 w0 wM mb v l) (hl : GoodRec l) (hk : keyOk k = true)
    (hW : ((((wM.setCell ⟨g, 0, none⟩ x').setCell ⟨g, 1, none⟩ y').setCell ⟨g, 2, none⟩ z').setCell ⟨g, 3, none⟩ u').setCell ⟨g, 4, none⟩ v' = W3) :
    Store W3 B sb mb ix (putK k (v, l) E) X d ∧ W3.ownsRow w.heap.size 53 3 v l.length (valCells l) ∧ Kept3 sb mb ix w W3 := by
  obtain ⟨wb, hbb, hT, hown⟩ := hp
  have hgr := hT.grown
  -- what stays from w to W3
  have step : ∀ i, i < w.heap.size → i ≠ mb → W3.heap[i]? = w.heap[i]? := fun i hi hne => by
    have hig : ∀ (j : Nat), i ≠ (⟨g, j, none⟩ : Addr).block := fun j => by show i ≠ g; omega
    rw [← hW, Below.heap_setCell _ _ _ _ (hig 4), Below.heap_setCell _ _ _ _ (hig 3), Below.heap_setCell _ _ _ _ (hig 2), Below.heap_setCell _ _ _ _ (hig 1), Below.heap_setCell _ _ _ _ (hig 0)]
    have h1 : i < w0.heap.size := by omega
    have h2 : i < wb.heap.size := Nat.lt_of_lt_of_le h1 hbb.size
    rw [hgr.block i h2 (fun e => by injection e with e; exact hne e), hbb.block i h1, hb0.block i hi]
  have hmb : mb < w.heap.size := hs.lt.2
  have hmg : ∀ (j : Nat), mb ≠ (⟨g, j, none⟩ : Addr).block := fun j => by show mb ≠ g; omega
  have hM3 : W3.ownsMap Tryz.prog 9 Rv mb (E.length + 1) ((dmap (·.1) E).put (.string k) (.held v)) := by
    refine map_keep hM ?_
    rw [← hW, Below.heap_setCell _ _ _ _ (hmg 4), Below.heap_setCell _ _ _ _ (hmg 3), Below.heap_setCell _ _ _ _ (hmg 2), Below.heap_setCell _ _ _ _ (hmg 1), Below.heap_setCell _ _ _ _ (hmg 0)]
  have hrow : W3.ownsRow w0.heap.size 53 3 v l.length (valCells l) := own5 (turned_own hT hown) (by omega) hW
  have hap := hs.apart
  have e : (dmap (fun a : Value × List TVal => a.1) E).put (.string k) (.held v) = dmap (·.1) (putK k (v, l) E) := dmap_put (fun a : Value × List TVal => a.1) k (v, l) E hs.rise
  rw [e] at hM3
  have hM4 := map_size hM3
  rw [dmap_size] at hM4
  have hBw : B ≤ w0.heap.size := by have := hs.sB; have := hs.lt.1; omega
  refine ⟨{ hs with
      box := (step sb hs.lt.1 hap.1).trans hs.box
      own := hM4
      rise := hs.rise.put
      recs := fun p hp => ?_
      good := fun p hp => ?_
      irow := own_keep hs.irow fun i hi => step i (hs.irow.lt i hi).2 (hap.2 i hi).2
      flds := fun x hx => own_keep (hs.flds x hx) fun i hi => ?_ }, own_baseN hrow (by omega), ?_⟩
  · rcases mem_putK hp with rfl | hp
    · exact own_baseN hrow hBw
    · refine own_keep (hs.recs p hp) fun i hi => step i ((hs.recs p hp).lt i hi).2 fun e => ?_
      obtain ⟨cur, hc⟩ := own_type (hs.recs p hp) hi
      obtain ⟨es, c, hm⟩ := map_block hs.own
      rw [e, hm] at hc
      cases hc
  · rcases mem_putK hp with rfl | hp
    · exact ⟨hl, hk⟩
    · exact hs.good p hp
  · refine step i ((hs.flds x hx).lt i hi).2 fun e => ?_
    obtain ⟨cur, hc⟩ := own_type (hs.flds x hx) hi
    obtain ⟨es, c, hm⟩ := map_block hs.own
    rw [e, hm] at hc
    cases hc
  · have q1 : W3.os = wM.os ∧ W3.tape = wM.tape ∧ W3.output = wM.output ∧ W3.heap.size = wM.heap.size := by
      have := below5 (Below.refl g wM) hW
      refine ⟨this.os, this.tape, this.output, ?_⟩
      rw [← hW]; simp [World.setCell]
    refine ⟨q1.1.trans (hgr.os.trans (hbb.os.trans hb0.os)), q1.2.1.trans (hgr.tape.trans (hbb.tape.trans hb0.tape)), q1.2.2.1.trans (hgr.output.trans (hbb.output.trans hb0.output)), ?_, fun i hi _ h2 _ => step i hi h2⟩
    have := hgr.size
    have := hbb.size
    omega

section
variable {B sb mb d : Nat} {ix : Value} {E : Kv (Value × List TVal)} {X : List Ix} {w : World}
set_option maxRecDepth 100000 in
set_option maxHeartbeats 3200000 in
theorem put_any (h : Store w B sb mb ix E X d) (s : ByteArray) (r : Value) (l : List TVal) (C : Nat) (hr : IsVals w C r l) (hC : C ≤ w.heap.size) (hl : GoodRec l) (hk : keyOk s.data.toList = true) (hE : E.length ≤ 1000) :
    Calls Tryz.prog 22 #[.pointer (some ⟨sb, 0, none⟩), .string s, r] w (PutPost B sb mb ix E X d s.data.toList l (getK s.data.toList E).isSome w) := by
  have hss : s.size ≤ 16 := by
    unfold keyOk at hk
    simp only [Bool.and_eq_true, decide_eq_true_eq] at hk
    rw [Lib.size_eq]; exact hk.2
  have Hvals := Lib.hid (fun wx (hb : Below w.heap.size w wx) => hr.belowOf hb hC)
  obtain ⟨A, n, c, rfl, -⟩ := hr
  have Hrec : Hid (∀ wx, Below w.heap.size w wx → Calls Tryz.prog 45 #[.slice A n c] wx fun e w' => ∃ v, e = .returned v ∧ w'.ownsRow wx.heap.size 53 3 v l.length (valCells l) ∧ Below wx.heap.size wx w') := Lib.hid (fun wx hb => by
    obtain ⟨A', n', c', e, h1, h2, h3, h4⟩ := Hvals.out wx hb
    injection e with e1 e2 e3
    subst e1 e2 e3
    exact recClone_any A n c C l wx h3 (by have := h3.1; have := hl.le; omega) (Nat.le_trans hC hb.size) (fun u hu => by have := hl.size u hu; omega))
  clear Hvals
  obtain ⟨w0, hw0⟩ : ∃ w0, w.alloc (.cells #[.int .i64 0, .bool false, .slice none 0 0, .slice none 0 0, .int .i64 0] 35) = w0 := ⟨_, rfl⟩
  have hb0 : Below w.heap.size w w0 := hw0 ▸ below_alloc _ _
  have hbx : Box w0 w.heap.size 35 #[.int .i64 0, .bool false, .slice none 0 0, .slice none 0 0, .int .i64 0] := hw0 ▸ Box.made _ _ _
  have hsz : w0.heap.size = w.heap.size + 1 := by rw [← hw0]; simp
  have h0 := h.below hb0
  obtain ⟨q0, q1, q2, f0, f1, f2⟩ := h0.cells
  obtain ⟨A', n', c', hlk, -, -⟩ := h0.look s (by simp only [maxLen]; omega)
  have Hkey := Lib.hid (WideMaps.keyOf_string_mk Tryz.underlying9 (s := s) (by simp only [maxLen]; omega))
  have Hbx := Lib.hid hbx
  have Hb0 := Lib.hid hb0
  have Hsz := Lib.hid hsz
  have HE := Lib.hid hE
  have Hss := Lib.hid hss
  have H := Lib.hid h
  have H0 := Lib.hid h0
  have Hl := Lib.hid hl
  have Hk := Lib.hid hk
  clear hb0 hbx hsz h0 h hl hk q1 q2 f0 f1 f2 hE hss hC
  generalize (getK s.data.toList E).isSome = there at hlk ⊢
  go_enter Tryz.func22, Tryz.ntmps22
  go_wp2
  go_region_held3 (fun wx => wx.cell? ⟨sb, 0, none⟩ = some (.map (some mb)))
    (first | assumption | exact q0 | exact keepcell (by assumption) (by assumption) | exact turned_cell (by assumption) (by assumption))
    (first
      | (go_at_call 46; refine (clone_any s _ (by have := Hss.out; omega)).mono ?_; rintro e wS ⟨rfl, bS⟩)
      | (go_at_call 45; refine (Hrec.out _ (Below.then Hb0.out (Below.then (below_drew _) bS))).mono ?_; rintro e wR ⟨vR, rfl, oR, bR⟩; obtain ⟨Av, cv, rfl, -⟩ := own_sliceN oR; have cR : Below w0.heap.size w0 wR := Below.then (Below.then (below_drew _) bS) bR; have mR := map_keep H0.out.own (cR.block mb H0.out.lt.2); obtain ⟨wM, hrM, mM, tM⟩ := mR.store strKeyed Tryz.underlying57 (by have := HE.out; simp only [maxLen]; omega) Hkey.out (R := Rv) (val := .slice Av l.length cv) (d := .held (.slice Av l.length cv)) (ps := []) rfl))
  have hp0 : Put0 w0 wM mb (.slice Av l.length cv) l := ⟨wR, cR, tM, own_baseN oR (by have := bS.size; simpa using this)⟩
  have hbM : Box wM w.heap.size 35 #[.int .i64 0, .bool false, .slice none 0 0, .slice none 0 0, .int .i64 0] := turned_box tM (Hbx.out.below cR Hbx.out.lt)
  obtain ⟨r0, r1, r2, r3, r4, k0, k1, k2, k3, k4⟩ := box5 hbM
  obtain ⟨W3, hW3⟩ : ∃ W3, ((((wM.setCell ⟨w.heap.size, 0, none⟩ (.int .i64 0)).setCell ⟨w.heap.size, 1, none⟩ (.bool there)).setCell ⟨w.heap.size, 2, none⟩ (.slice none 0 0)).setCell ⟨w.heap.size, 3, none⟩ (.slice none 0 0)).setCell ⟨w.heap.size, 4, none⟩ (.int .i64 0) = W3 := ⟨_, rfl⟩
  obtain ⟨p0, p1, p2, p3, p4, -⟩ := box5 (box5_store hbM hW3)
  have hend := put_end Hb0.out rfl Hsz.out H.out mM hp0 Hl.out Hk.out hW3
  have Hend := Lib.hid hend
  clear hend hp0 hbM mM tM mR cR oR bR bS
  go_wp2
  refine bodyPost_ret (v := replyV 0 there (.slice none 0 0) (.slice none 0 0) 0) ?_ rfl ⟨_, rfl, Hend.out.1, Hend.out.2.1, Hend.out.2.2⟩
  simp [results, Tryz.results22, go_sem, replyV, p0, p1, p2, p3, p4]
end
end Go.Proofs.YtknfjajmnlpfjaaGreat

/- Do of the document's store of layer 5: compare-and-put. Condition: the store and the operation are in memory. -/
import Derived.Test.YtknfjajmnlpfjaaGreatMdC
namespace Go.Proofs.YtknfjajmnlpfjaaGreat
open Go.RowKit
open Go.Lib (strCells compareBytes)

section
variable {α : Type}
theorem getK_put_ne {k k' : List UInt8} (a : α) (h : k' ≠ k) : ∀ (M : Kv α), getK k' (putK k a M) = getK k' M
  | [] => by simp [putK, getK, Ne.symm h]
  | y :: l => by
    unfold putK
    split
    · simp [getK, Ne.symm h]
    · split
      · rename_i e
        unfold getK
        rw [if_neg (Ne.symm h), if_neg (by rw [e]; exact Ne.symm h)]
      · unfold getK
        rw [getK_put_ne a h l]
theorem rise_ext : ∀ {M M' : Kv α}, Rise M → Rise M' → (∀ k, getK k M = getK k M') → M = M'
  | [], [], _, _, _ => rfl
  | [], q :: l', _, _, h => by
    have := h q.1
    simp [getK] at this
  | p :: l, [], _, _, h => by
    have := h p.1
    simp [getK] at this
  | p :: l, q :: l', hr, hr', h => by
    have h1 := List.pairwise_cons.1 hr
    have h2 := List.pairwise_cons.1 hr'
    have e1 : p.1 = q.1 := by
      rcases lt_tri p.1 q.1 with e | e | e
      · have := h p.1
        have hn : getK p.1 (q :: l') = none := getK_none.2 fun x hx => by
          rcases List.mem_cons.1 hx with rfl | hx
          · exact fun e' => lt_irr _ (e' ▸ e)
          · exact fun e' => lt_irr _ (e' ▸ List.lt_trans e (h2.1 x hx))
        rw [hn] at this
        simp [getK] at this
      · exact e
      · have := h q.1
        have hn : getK q.1 (p :: l) = none := getK_none.2 fun x hx => by
          rcases List.mem_cons.1 hx with rfl | hx
          · exact fun e' => lt_irr _ (e' ▸ e)
          · exact fun e' => lt_irr _ (e' ▸ List.lt_trans e (h1.1 x hx))
        rw [hn] at this
        simp [getK] at this
    have e2 : p = q := by
      have := h p.1
      unfold getK at this
      rw [if_pos rfl, if_pos e1.symm] at this
      injection this with this
      exact Prod.ext e1 this
    subst e2
    have e3 : l = l' := rise_ext h1.2 h2.2 fun k => by
      by_cases hk : p.1 = k
      · subst hk
        rw [getK_none.2 fun x hx e' => lt_irr _ (e' ▸ h1.1 x hx), getK_none.2 fun x hx e' => lt_irr _ (e' ▸ h2.1 x hx)]
      · have := h k
        unfold getK at this
        rwa [if_neg hk, if_neg hk] at this
    rw [e3]
end

/-- the store behind a put into its map -/
theorem store_put {B sb mb d : Nat} {ix v : Value} {E : Kv (Value × List TVal)} {X : List Ix} {w0 wM : World} {k : List UInt8} {l : List TVal} (hs : Store w0 B sb mb ix E X d) (hM : wM.ownsMap Tryz.prog 9 Rv mb (E.length + 1) ((dmap (·.1) E).put (.string k) (.held v))) (hp : Put0 w0 wM mb v l) (hl : GoodRec l) (hk : keyOk k = true) :
    Store wM B sb mb ix (putK k (v, l) E) X d ∧ w0.grownBy wM (some mb) := by
  obtain ⟨wb, hbb, hT, hown⟩ := hp
  have hgr := hT.grown
  have step : ∀ i, i < w0.heap.size → i ≠ mb → wM.heap[i]? = w0.heap[i]? := fun i hi hne => by
    rw [hgr.block i (Nat.lt_of_lt_of_le hi hbb.size) (fun e => by injection e with e; exact hne e), hbb.block i hi]
  have hrow : wM.ownsRow w0.heap.size 53 3 v l.length (valCells l) := turned_own hT hown
  have hap := hs.apart
  have e : (dmap (fun a : Value × List TVal => a.1) E).put (.string k) (.held v) = dmap (·.1) (putK k (v, l) E) := dmap_put (fun a : Value × List TVal => a.1) k (v, l) E hs.rise
  rw [e] at hM
  have hM4 := map_size hM
  rw [dmap_size] at hM4
  have hBw : B ≤ w0.heap.size := by have := hs.sB; have := hs.lt.1; omega
  refine ⟨{ hs with
      box := (step sb hs.lt.1 hap.1).trans hs.box
      own := hM4
      rise := hs.rise.put
      recs := fun p hp => ?_
      good := fun p hp => ?_
      irow := own_keep hs.irow fun i hi => step i (hs.irow.lt i hi).2 (hap.2 i hi).2
      flds := fun x hx => own_keep (hs.flds x hx) fun i hi => ?_ }, ⟨hgr.os.trans hbb.os, hgr.tape.trans hbb.tape, hgr.output.trans hbb.output, Nat.le_trans hbb.size hgr.size, fun i hi hne => step i hi fun e => hne (by rw [e])⟩⟩
  · rcases mem_putK hp with rfl | hp
    · exact own_baseN hrow hBw
    · refine own_keep (hs.recs p hp) fun i hi => step i ((hs.recs p hp).lt i hi).2 fun e => ?_
      obtain ⟨cur, hc⟩ := own_type (hs.recs p hp) hi
      obtain ⟨es, c, hm⟩ := map_block hs.own
      rw [e, hm] at hc
      cases hc
  · rcases mem_putK hp with rfl | hp
    · exact ⟨hl, hk⟩
    · exact hs.good p hp
  · refine step i ((hs.flds x hx).lt i hi).2 fun e => ?_
    obtain ⟨cur, hc⟩ := own_type (hs.flds x hx) hi
    obtain ⟨es, c, hm⟩ := map_block hs.own
    rw [e, hm] at hc
    cases hc
/-- a range over another map goes on -/
theorem Store.grownR {B sb mb r : Nat} {ix : Value} {E : Kv (Value × List TVal)} {X : List Ix} {d : Nat} {w w' : World} {b n cnt : Nat} {D : DataW Value} {left : Lit → Bool} (h : Store w B sb mb ix E X d) (hr : w.ranges Tryz.prog 9 Rv b r n D left cnt) (hg : w.grownBy w' (some r)) : Store w' B sb mb ix E X d :=
  h.frame fun i o hi ho _ => by
    obtain ⟨es, clock, since, seen, c0, hb, F, hs, hD, hrr, rest⟩ := hr
    refine hg.block i (Array.getElem?_eq_some_iff.1 hi).1 fun e => ?_
    injection e with e
    subst e
    rw [hrr] at hi
    injection hi with hi
    subst hi
    exact ho
theorem keys_nodup {E : Kv (Value × List TVal)} {ss : List (List UInt8)} (hp : ss.Perm (E.map (·.1))) (k : List UInt8) : (if k ∈ ss then getK k (mapK (·.2) E) else none) = getK k (mapK (·.2) E) := by
  by_cases hk : k ∈ ss
  · rw [if_pos hk]
  · rw [if_neg hk]
    symm
    refine getK_none.2 fun p hp' e => hk ?_
    obtain ⟨q, hq, rfl⟩ := List.mem_map.1 hp'
    exact hp.mem_iff.2 (List.mem_map.2 ⟨q, hq, e⟩)

/-- what Copy leaves -/
theorem copy_end {w0 w3 w4 W : World} {B cb cmb d : Nat} {v : Value} {E' : Kv (Value × List TVal)} {I : List (Int × List Int)} (h : Store w3 B cb cmb (.slice none 0 0) E' [] 0) (hb : Below w3.heap.size w3 w4) (hi : IdxIs w4 w3.heap.size v I) (hI : ∃ X : List Ix, X.map xi = I ∧ (X.Pairwise fun x y => x.num < y.num) ∧ (∀ x ∈ X, 1 ≤ x.num ∧ x.num ≤ d ∧ idxErr 1 x.fs = 0 ∧ ∀ n ∈ x.fs, InI64 n) ∧ d ≤ 6)
    (hB : Below w0.heap.size w0 w3) (hB0 : w0.heap.size ≤ B) (hW : (w4.setCell ⟨cb, 1, none⟩ v).setCell ⟨cb, 2, none⟩ (.int .i64 d) = W) : Stands W B cb cmb (mapK (·.2) E', I, d) ∧ Below w0.heap.size w0 W := by
  obtain ⟨X', g1, g2, g3⟩ := hi
  obtain ⟨X, e, p1, p2, p3⟩ := hI
  have h4 := h.below hb
  have hk : ∀ i, i ≠ cb → W.heap[i]? = w4.heap[i]? := fun i hi => by
    have h1 : ∀ j, i ≠ (⟨cb, j, none⟩ : Addr).block := fun _ => hi
    rw [← hW, Below.heap_setCell _ _ _ _ (h1 2), Below.heap_setCell _ _ _ _ (h1 1)]
  have hbox : Box W cb 59 #[.map (some cmb), v, .int .i64 d] := hW ▸ (h4.box.set_ 1 v).set_ 2 (.int .i64 d)
  have hcb : cb < w3.heap.size := h.lt.1
  have hBs : B ≤ w3.heap.size := by have := h.sB; omega
  have hxx : X'.map xi = X.map xi := by rw [g3, e]
  have hget : ∀ x ∈ X', ∃ y ∈ X, xi x = xi y := fun x hx => by
    have : xi x ∈ X.map xi := hxx ▸ List.mem_map.2 ⟨x, hx, rfl⟩
    obtain ⟨y, hy, e⟩ := List.mem_map.1 this
    exact ⟨y, hy, e.symm⟩
  refine ⟨⟨v, E', X', h4.newIx hbox (fun i _ hi _ => hk i hi) (own_baseN (own_keep g1 fun i hi => hk i fun e => by have := (g1.lt i hi).1; omega) hBs) (fun x hx => own_base (own_keep (g2 x hx) fun i hi => hk i fun e => by have := ((g2 x hx).lt i hi).1; omega) hBs) ?_ (fun x hx => ?_) p3, rfl, g3⟩, ?_⟩
  · have h1 : (X.map xi).Pairwise fun a b => a.1 < b.1 := List.pairwise_map.2 p1
    rw [← hxx] at h1
    exact (List.pairwise_map (f := xi) (R := fun a b : Int × List Int => a.1 < b.1)).1 h1
  · obtain ⟨y, hy, e⟩ := hget x hx
    have h1 := p2 y hy
    obtain ⟨n1, v1, f1⟩ := x
    obtain ⟨n2, v2, f2⟩ := y
    simp only [xi, Prod.mk.injEq] at e
    obtain ⟨rfl, rfl⟩ := e
    exact h1
  · rw [← hW]
    exact ((hB.trans (hb.mono hB.size)).setCell (by show w0.heap.size ≤ cb; have := h.sB; omega) _).setCell (by show w0.heap.size ≤ cb; have := h.sB; omega) _

end Go.Proofs.YtknfjajmnlpfjaaGreat

namespace Go.Proofs.YtknfjajmnlpfjaaGreat
open Go.RowKit
open Go.Lib (strCells compareBytes)

/-- n indexes in memory -/
def HasIdx (w : World) (B : Nat) (A : Option Addr) (n : Nat) (X : List Ix) : Prop :=
  X.length = n ∧ Has w B A (n * 2) (ixCells X) ∧ ∀ x ∈ X, ∃ Af cf, x.v = .slice Af x.fs.length cf ∧ x.fs.length ≤ 1000 ∧ HasInts w B Af x.fs.length x.fs
theorem HasIdx.belowOf {w w' : World} {B C n : Nat} {A : Option Addr} {X : List Ix} (h : HasIdx w B A n X) (hb : Below C w w') (hC : B ≤ C) : HasIdx w' B A n X :=
  ⟨h.1, h.2.1.belowOf hb hC, fun x hx => by
    obtain ⟨Af, cf, e, h1, h2⟩ := h.2.2 x hx
    exact ⟨Af, cf, e, h1, h2.belowOf hb hC⟩⟩
theorem idxIs_has {w : World} {base : Nat} {v : Value} {I : List (Int × List Int)} (h : IdxIs w base v I) (hs : ∀ x ∈ I, x.2.length ≤ 1000) : ∃ A c X, v = .slice A I.length c ∧ HasIdx w w.heap.size A I.length X ∧ X.map xi = I := by
  obtain ⟨X, h1, h2, rfl⟩ := h
  obtain ⟨A, c, rfl, -, -, hh⟩ := own_sliceN h1
  refine ⟨A, c, X, by rw [List.length_map], ⟨by rw [List.length_map], by rw [List.length_map]; exact hh, fun x hx => ?_⟩, rfl⟩
  obtain ⟨Af, cf, e, -, -, hi⟩ := intcells_slice (h2 x hx)
  exact ⟨Af, cf, e, hs (xi x) (List.mem_map.2 ⟨x, hx, rfl⟩), hi⟩
set_option maxRecDepth 100000 in
set_option maxHeartbeats 1600000 in
theorem sameIdx_eq (A A' : Option Addr) (n c c' C C' : Nat) (X X' : List Ix) (w : World) (h : HasIdx w C A n X) (h' : HasIdx w C' A' n X') (e : X.map xi = X'.map xi) (hn : n ≤ 1000) :
    Calls Tryz.prog 16 #[.slice A n c, .slice A' n c'] w fun e w' => e = .returned (.bool true) ∧ ∃ m, w' = w.drewN m := by
  have H := Lib.hid h
  have H' := Lib.hid h'
  have He := Lib.hid e
  clear h h' e
  go_enter Tryz.func16, Tryz.ntmps16
  go_wp2
  go_loopw [5] (fun i wr => ∃ k : Nat, k ≤ n ∧ i = .int .i64 (k : Int) ∧ ∃ m, wr = w.drewN m) (fun i _ => n - (intOf i).toNat)
  case atStart => exact ⟨0, by omega, rfl, 0, rfl⟩
  case round =>
    obtain ⟨k, hk, rfl, md, hmd⟩ := hrel
    have Hb : Hid (Below w.heap.size w wr ∧ ∀ p, wr.cell? p = w.cell? p) := Lib.hid (by rw [hmd]; exact ⟨below_drews (Below.refl _ _) md, fun _ => rfl⟩)
    have Hd : Hid (∀ j, ∃ m, wr.drewN j = w.drewN m) := Lib.hid fun j => ⟨_, by rw [hmd]; exact World.drewN_drewN _ _ _⟩
    clear hmd
    by_cases hlt : k < n
    · obtain ⟨a, x, rfl, -, hx, c0, c1⟩ := ix_at H.out.2.1 H.out.1 hlt
      obtain ⟨b, y, rfl, -, hy, d0, d1⟩ := ix_at H'.out.2.1 H'.out.1 hlt
      obtain ⟨Af, cf, ex, hf1, hfx⟩ := H.out.2.2 x (List.mem_of_getElem? hx)
      obtain ⟨Ag, cg, ey, hg1, hgy⟩ := H'.out.2.2 y (List.mem_of_getElem? hy)
      have hxy : xi x = xi y := by
        have h1 : (X.map xi)[k]? = some (xi x) := by simp [hx]
        rw [He.out] at h1
        simp [hy] at h1
        exact h1.symm
      obtain ⟨nx, vx, fx⟩ := x
      obtain ⟨ny, vy, fy⟩ := y
      simp only [xi, Prod.mk.injEq] at hxy
      obtain ⟨rfl, rfl⟩ := hxy
      simp only at ex ey hf1 hfx hg1 hgy c0 c1 d0 d1
      subst ex
      subst ey
      obtain ⟨z, hz⟩ : ∃ z, fx.length = z := ⟨_, rfl⟩
      rw [hz] at hf1 hfx hgy c1 d1
      have p0 := (Hb.out.2 _).trans c0
      have p1 := (Hb.out.2 _).trans c1
      have r0 := (Hb.out.2 _).trans d0
      have r1 := (Hb.out.2 _).trans d1
      have Hfx := Lib.hid hfx
      have Hgy := Lib.hid hgy
      have P1 := Lib.hid c1
      have R1 := Lib.hid d1
      have k0 : (0 : Int) ≤ (k : Int) := by omega
      have k1 : (k : Int) < (n : Int) := by omega
      have n1 : (nx != nx) = false := by simp
      have n2 : ((z : Int) != (z : Int)) = false := by simp
      clear c0 c1 d0 d1 hfx hgy hx hy hg1 hz
      go_wp2
      go_quiet (fail)
      have q1 : (wr.drewN nq).cell? ⟨(a.add (k * 2)).block, (a.add (k * 2)).off + 1, none⟩ = some (.slice Af z cf) := p1
      have s1 : (wr.drewN nq).cell? ⟨(b.add (k * 2)).block, (b.add (k * 2)).off + 1, none⟩ = some (.slice Ag z cg) := r1
      have Hd2 : Hid (∀ j, ∃ m, ((wr.drewN nq).drewN j) = w.drewN m) := Lib.hid fun j => by
        obtain ⟨m, e⟩ := Hd.out (nq + j)
        exact ⟨m, by rw [← e]; exact World.drewN_drewN _ _ _⟩
      clear p0 p1 r0 r1 Hd Hb
      generalize wr.drewN nq = wd at *
      generalize wr = wa at *
      go_wp2
      go_loopw [6] (fun j wr => ∃ q : Nat, q ≤ z ∧ j = .int .i64 (q : Int) ∧ ∃ m, wr = w.drewN m) (fun j _ => z - (intOf j).toNat)
      case atStart => exact ⟨0, by omega, rfl, by obtain ⟨m, e⟩ := Hd2.out 0; exact ⟨m, e⟩⟩
      case round =>
        obtain ⟨q, hq, rfl, md, hmd⟩ := hrel
        have Hc : Hid (∀ p, wr.cell? p = w.cell? p) := Lib.hid (by rw [hmd]; exact fun _ => rfl)
        have Hdd : Hid (∀ j, ∃ m, wr.drewN j = w.drewN m) := Lib.hid fun j => ⟨_, by rw [hmd]; exact World.drewN_drewN _ _ _⟩
        clear hmd
        have u1 := (Hc.out _).trans P1.out
        have v1 := (Hc.out _).trans R1.out
        by_cases hqz : q < z
        · obtain ⟨af, x1, rfl, -, hx1, t1⟩ := Hfx.out.at_ hqz
          obtain ⟨ag, x2, rfl, -, hx2, t2⟩ := Hgy.out.at_ hqz
          rw [hx1] at hx2
          injection hx2 with hx2
          subst hx2
          have t1' := (Hc.out _).trans t1
          have t2' := (Hc.out _).trans t2
          have q0 : (0 : Int) ≤ (q : Int) := by omega
          have q1' : (q : Int) < (z : Int) := by omega
          have n3 : (x1 != x1) = false := by simp
          clear t1 t2 hx1
          go_wp2
          go_quiet (fail)
          go_wp2
          go_roundw
          case rel => exact ⟨q + 1, by omega, by go_num, Hdd.out _⟩
          case measure => simp [intOf]; omega
        · have q1' : (z : Int) ≤ (q : Int) := by omega
          go_wp2
          go_roundw
          case rel => exact ⟨k + 1, by omega, by go_num, Hdd.out 0⟩
          case measure => simp [intOf]; omega
    · have k1 : (n : Int) ≤ (k : Int) := by omega
      go_wp2
      go_ret
      exact ⟨rfl, Hd.out 0⟩
end Go.Proofs.YtknfjajmnlpfjaaGreat

namespace Go.Proofs.YtknfjajmnlpfjaaGreat
open Go.RowKit
open Go.Lib (strCells compareBytes)

/-- element k of a row of the call's own: its cells, and the row and the rest of the world when it is stored to -/
theorem own_put {w : World} {B n c k : Nat} {e : TypeId} {A : Option Addr} {ys : List Value} (h : w.ownsRow B e 3 (.slice A n c) n ys) (hk : k < n) (x y z : Value) : ∃ (g : Nat) (u0 u1 u2 : Value), A = some ⟨g, 0, none⟩ ∧ B ≤ g ∧
    w.cell? ⟨g, k * 3, none⟩ = some u0 ∧ w.cell? ⟨g, k * 3 + 1, none⟩ = some u1 ∧ w.cell? ⟨g, k * 3 + 2, none⟩ = some u2 ∧
    w.frozen? ⟨g, k * 3, none⟩ = false ∧ w.frozen? ⟨g, k * 3 + 1, none⟩ = false ∧ w.frozen? ⟨g, k * 3 + 2, none⟩ = false ∧
    (∃ ys', (((w.setCell ⟨g, k * 3, none⟩ x).setCell ⟨g, k * 3 + 1, none⟩ y).setCell ⟨g, k * 3 + 2, none⟩ z).ownsRow B e 3 (.slice A n c) n ys') ∧
    w.grownBy (((w.setCell ⟨g, k * 3, none⟩ x).setCell ⟨g, k * 3 + 1, none⟩ y).setCell ⟨g, k * 3 + 2, none⟩ z) (some g) := by
  obtain ⟨g, rfl, hB⟩ := own_head h (by omega)
  have hy := h.1
  have s1 := h.stored (k * 3) x
  have s2 := s1.1.stored (k * 3 + 1) y
  have s3 := s2.1.stored (k * 3 + 2) z
  refine ⟨g, ys[k * 3]'(by omega), ys[k * 3 + 1]'(by omega), ys[k * 3 + 2]'(by omega), rfl, hB, ?_, ?_, ?_, h.frozenAt _, h.frozenAt _, h.frozenAt _, ⟨_, s3.1⟩, (s1.2.trans s2.2).trans s3.2⟩
  · rw [h.cellAt _ (by omega)]
    exact List.getElem?_eq_getElem (by omega)
  · rw [h.cellAt _ (by omega)]
    exact List.getElem?_eq_getElem (by omega)
  · rw [h.cellAt _ (by omega)]
    exact List.getElem?_eq_getElem (by omega)

/-- a row of the call's own stays one, whatever cell is written -/
theorem owned_set {w : World} {B n size : Nat} {e : TypeId} {v : Value} (h : ∃ xs, w.ownsRow B e size v n xs) (g i : Nat) (u : Value) : ∃ xs, (w.setCell ⟨g, i, none⟩ u).ownsRow B e size v n xs := by
  obtain ⟨xs, hl, h⟩ := h
  rcases h with ⟨rfl, rfl⟩ | ⟨g', cap, cur, rfl, hB, hg, h1, h2, h3, h4⟩
  · exact ⟨xs, hl, .inl ⟨rfl, rfl⟩⟩
  · by_cases hgg : g' = g
    · subst hgg
      have hb : Box w g' e cur := hg
      have hb' := hb.set_ i u
      exact ⟨((cur.setIfInBounds i u).toList.take (n * size)), by rw [List.length_take]; have h5 := Nat.mul_le_mul_right size h1; simp only [Array.length_toList, Array.size_setIfInBounds, h3]; exact Nat.min_eq_left h5, .inr ⟨g', cap, _, rfl, hB, hb', h1, h2, by simpa using h3, rfl⟩⟩
    · exact ⟨xs, hl, .inr ⟨g', cap, cur, rfl, hB, (Below.heap_setCell _ _ _ _ (fun e => hgg e)).trans hg, h1, h2, h3, h4⟩⟩
theorem owned_set3 {w : World} {B n size : Nat} {e : TypeId} {v : Value} (h : ∃ xs, w.ownsRow B e size v n xs) (g i j k : Nat) (x y z : Value) : ∃ xs, (((w.setCell ⟨g, i, none⟩ x).setCell ⟨g, j, none⟩ y).setCell ⟨g, k, none⟩ z).ownsRow B e size v n xs := owned_set (owned_set (owned_set h g i x) g j y) g k z

/-- the store stands as the state says, none of its records in a block from lo to hi -/
def StandsA (w : World) (B sb mb : Nat) (S : PSt) (lo hi : Nat) : Prop := ∃ ix E X, Store w B sb mb ix E X S.2.2 ∧ mapK (·.2) E = S.1 ∧ X.map xi = S.2.1 ∧ ∀ p ∈ E, ∀ g, p.2.1.ownBlock = some g → g < lo ∨ hi ≤ g
theorem StandsA.stands {w : World} {B sb mb lo hi : Nat} {S : PSt} (h : StandsA w B sb mb S lo hi) : Stands w B sb mb S := by
  obtain ⟨ix, E, X, h1, h2, h3, _⟩ := h
  exact ⟨ix, E, X, h1, h2, h3⟩
theorem StandsA.below {w w' : World} {B sb mb lo hi : Nat} {S : PSt} (h : StandsA w B sb mb S lo hi) (hb : Below w.heap.size w w') : StandsA w' B sb mb S lo hi := by
  obtain ⟨ix, E, X, h1, h2, h3, h4⟩ := h
  exact ⟨ix, E, X, h1.below hb, h2, h3, h4⟩
/-- a row of values of such a block may turn -/
theorem StandsA.grown {w w' : World} {B sb mb lo hi n Bo : Nat} {S : PSt} {v : Value} {xs : List Value} (h : StandsA w B sb mb S lo hi) (ho : w.ownsRow Bo 53 3 v n xs) (hv : ∀ g, v.ownBlock = some g → lo ≤ g ∧ g < hi) (hg : w.grownBy w' v.ownBlock) : Stands w' B sb mb S := by
  obtain ⟨ix, E, X, h1, h2, h3, h4⟩ := h
  have hty : ∀ g, v.ownBlock = some g → ∃ cur, w.heap[g]? = some (.cells cur 53 (0, 0)) := fun g e => own_type ho e
  have hmb := map_block h1.own
  refine ⟨ix, E, X, { h1 with
      box := (hg.block sb h1.lt.1 fun e => ?_).trans h1.box
      own := map_keep h1.own (hg.block mb h1.lt.2 fun e => ?_)
      recs := fun p hp => own_keep (h1.recs p hp) fun i hi => hg.block i ((h1.recs p hp).lt i hi).2 fun e => ?_
      irow := own_keep h1.irow fun i hi => hg.block i (h1.irow.lt i hi).2 fun e => ?_
      flds := fun x hx => own_keep (h1.flds x hx) fun i hi => hg.block i ((h1.flds x hx).lt i hi).2 fun e => ?_ }, h2, h3⟩
  · obtain ⟨cur, hc⟩ := hty sb e.symm
    have hb := h1.box
    unfold Box at hb
    rw [hb] at hc
    injection hc with hc; injection hc with _ hc; exact absurd hc (by decide)
  · obtain ⟨cur, hc⟩ := hty mb e.symm
    obtain ⟨es, c, hm⟩ := hmb
    rw [hm] at hc
    cases hc
  · have a1 := hv i e.symm
    have a2 := h4 p hp i hi
    omega
  · obtain ⟨cur, hc⟩ := hty i e.symm
    obtain ⟨cur', hc'⟩ := own_type h1.irow hi
    rw [hc'] at hc
    injection hc with hc; injection hc with _ hc; exact absurd hc (by decide)
  · obtain ⟨cur, hc⟩ := hty i e.symm
    obtain ⟨cur', hc'⟩ := own_type (h1.flds x hx) hi
    rw [hc'] at hc
    injection hc with hc; injection hc with _ hc; exact absurd hc (by decide)

def putOp (key : ByteArray) (rc : List TVal) : TOp := ⟨1, key, ⟨#[]⟩, rc, [], 0, [], [], [], 0, 0, 0⟩
theorem put_apart {x1 x2 : World} {B sb mb : Nat} {S : PSt} (h : Stands x1 B sb mb S) (hb : Below x1.heap.size x1 x2) (key : ByteArray) (A : Option Addr) (n c : Nat) (rc : List TVal) (hr : IsVals x2 x2.heap.size (.slice A n c) rc) (hl : S.1.length ≤ 1000) :
    Calls Tryz.prog 9 #[.pointer (some ⟨sb, 0, none⟩), .agg #[.int .i64 1, .string key, .string ⟨#[]⟩, .slice A n c, .slice none 0 0, .int .i64 0, .slice none 0 0, .slice none 0 0, .slice none 0 0, .int .i64 0, .int .i64 0, .int .i64 0]] x2
      fun e w' => ∃ u, e = .returned u ∧ StandsA w' B sb mb (stepT S (putOp key rc)) x1.heap.size x2.heap.size ∧ Below B x2 w' ∧ Stays x2 w' := by
  obtain ⟨ix, E, X, h1, h2, h3⟩ := h
  have hE : E.length ≤ 1000 := by rw [← h2, mapK_len] at hl; exact hl
  have g1 := h1.below hb
  have ho : OpIs x2 x2.heap.size (.agg #[.int .i64 1, .string key, .string ⟨#[]⟩, .slice A n c, .slice none 0 0, .int .i64 0, .slice none 0 0, .slice none 0 0, .slice none 0 0, .int .i64 0, .int .i64 0, .int .i64 0]) (putOp key rc) := ⟨_, _, _, _, _, rfl, hr, isVals_nil _ _, isInts_nil _ _, isVals_nil _ _, isVals_nil _ _⟩
  have hin : ∀ u ∈ rc, InI64 u.n := by
    obtain ⟨_, _, _, _, _, _, _, hh⟩ := hr
    exact hh
  have key_post : ∀ {M : Kv (List TVal)} {I : List (Int × List Int)} {nn : Nat} {a : Ans}, (M, I, nn) = stepT S (putOp key rc) → ∀ e w', DoPost B sb mb ix E M I nn a x2 e w' → ∃ u, e = .returned u ∧ StandsA w' B sb mb (stepT S (putOp key rc)) x1.heap.size x2.heap.size ∧ Below B x2 w' ∧ Stays x2 w' := by
    rintro M I nn a e1 e w' ⟨v, ix', E', X', rfl, _, hs, hM, hI, hk, _, hnew⟩
    refine ⟨v, rfl, ⟨ix', E', X', by rw [← e1]; exact hs, by rw [← e1]; exact hM, by rw [← e1]; exact hI, fun p hp g hg => ?_⟩, g1.kept hk (by have := g1.lt.1; have := g1.sB; omega), hk.stays g1⟩
    rcases hnew p hp with hp | hp
    · exact .inl ((h1.recs p hp).lt g hg).2
    · exact .inr (hp.lt g hg).1
  have hS : S = (mapK (·.2) E, X.map xi, S.2.2) := by rw [h2, h3]
  by_cases hz : checkT (putOp key rc) = 0
  · have hall := firstN_all hz
    unfold errsT at hall
    dsimp only [putOp] at hall
    have a0 := keyE_ok (hall (keyE key) (by simp))
    have a1 := hall (recErr rc) (by simp)
    refine (do_k1 g1 x2.heap.size (Nat.le_refl _) key ⟨#[]⟩ rc [] [] [] 0 0 0 0 [] A none none none none n c 0 0 0 0 0 0 0 0 ho hz
      (fun w1 hb1 => put_do (g1.below hb1) key _ rc x2.heap.size (hr.belowOf hb1 (Nat.le_refl _)) hb1.size ⟨a1, hin⟩ a0.1 hE)).mono (key_post ?_)
    unfold stepT doT
    rw [if_neg (by rw [hz]; simp), if_pos (by rfl), h2, h3]
    rfl
  · refine (do_err g1 x2.heap.size (Nat.le_refl _) 1 key ⟨#[]⟩ rc [] [] [] 0 0 0 0 [] A none none none none n c 0 0 0 0 0 0 0 0 ho hz).mono (key_post ?_)
    unfold stepT doT
    rw [if_pos hz, h2, h3]

section
variable {B sb mb d : Nat} {ix : Value} {E : Kv (Value × List TVal)} {X : List Ix} {w : World}
set_option maxRecDepth 100000 in
set_option maxHeartbeats 3200000 in
theorem do_get_below (h : Store w B sb mb ix E X d) (C : Nat) (hC : C ≤ w.heap.size) (key to : ByteArray) (rc old low high : List TVal) (id lim sp nd : Int) (fs : List Int) (Ar Ao Af Al Ah : Option Addr) (nr cr no co nf cf nl cl nh ch : Nat)
    (ho : OpIs w C (.agg #[.int .i64 3, .string key, .string to, .slice Ar nr cr, .slice Ao no co, .int .i64 id, .slice Af nf cf, .slice Al nl cl, .slice Ah nh ch, .int .i64 lim, .int .i64 sp, .int .i64 nd]) ⟨3, key, to, rc, old, id, fs, low, high, lim, sp, nd⟩) (hz : checkT ⟨3, key, to, rc, old, id, fs, low, high, lim, sp, nd⟩ = 0) (hkey : key.size ≤ maxLen) :
    Calls Tryz.prog 9 #[.pointer (some ⟨sb, 0, none⟩), .agg #[.int .i64 3, .string key, .string to, .slice Ar nr cr, .slice Ao no co, .int .i64 id, .slice Af nf cf, .slice Al nl cl, .slice Ah nh ch, .int .i64 lim, .int .i64 sp, .int .i64 nd]] w fun e w' => ∃ (u : Value) (a : Ans), e = .returned u ∧ AnsIs w' w.heap.size u a ∧ Below w.heap.size w w' := by
  obtain ⟨w00, hw00⟩ : ∃ w00, w.alloc (.cells #[.int .i64 3, .string key, .string to, .slice Ar nr cr, .slice Ao no co, .int .i64 id, .slice Af nf cf, .slice Al nl cl, .slice Ah nh ch, .int .i64 lim, .int .i64 sp, .int .i64 nd] 39) = w00 := ⟨_, rfl⟩
  have hb00 : Below w.heap.size w w00 := hw00 ▸ below_alloc _ _
  have hbo0 : Box w00 w.heap.size 39 #[.int .i64 3, .string key, .string to, .slice Ar nr cr, .slice Ao no co, .int .i64 id, .slice Af nf cf, .slice Al nl cl, .slice Ah nh ch, .int .i64 lim, .int .i64 sp, .int .i64 nd] := hw00 ▸ Box.made _ _ _
  have hs00 : w00.heap.size = w.heap.size + 1 := by rw [← hw00]; simp
  obtain ⟨w0, hw0⟩ : ∃ w0, w00.alloc (.cells #[.int .i64 0, .bool false, .slice none 0 0, .slice none 0 0, .int .i64 0] 35) = w0 := ⟨_, rfl⟩
  have hb0 : Below w.heap.size w w0 := Below.then hb00 (hw0 ▸ below_alloc _ _)
  have hbx : Box w0 (w.heap.size + 1) 35 #[.int .i64 0, .bool false, .slice none 0 0, .slice none 0 0, .int .i64 0] := hw0 ▸ made_at hs00 _ _
  have hbo : Box w0 w.heap.size 39 #[.int .i64 3, .string key, .string to, .slice Ar nr cr, .slice Ao no co, .int .i64 id, .slice Af nf cf, .slice Al nl cl, .slice Ah nh ch, .int .i64 lim, .int .i64 sp, .int .i64 nd] := hw0 ▸ hbo0.alloc _
  have hsz : w0.heap.size = w.heap.size + 1 + 1 := by rw [← hw0]; simp [hs00]
  have hchk := plainCheck_any _ _ C w0 (Nat.le_trans hC hb0.size) (ho.belowOf hb0 hC)
  have e0 := hbo.cell 0; have e1 := hbo.cell 1; have e2 := hbo.cell 2; have e3 := hbo.cell 3; have e4 := hbo.cell 4; have e5 := hbo.cell 5
  have e6 := hbo.cell 6; have e7 := hbo.cell 7; have e8 := hbo.cell 8; have e9 := hbo.cell 9; have e10 := hbo.cell 10; have e11 := hbo.cell 11
  have H := Lib.hid h
  have Hbx := Lib.hid hbx
  have Hbo := Lib.hid hbo
  have Hb0 := Lib.hid hb0
  have Hsz := Lib.hid hsz
  have Hchk := Lib.hid hchk
  clear hbo hbo0 hb00 hb0 hbx hsz hchk h ho
  rw [hz] at Hchk
  go_enter Tryz.func9, Tryz.ntmps9
  go_wp2_with fail
  refine Hchk.out.mono ?_
  rintro e w1 ⟨rfl, hb1⟩
  have hbo1 := Hbo.out.below hb1 Hbo.out.lt
  have a0 := hbo1.cell 0
  have a1 := hbo1.cell 1
  have Hb1 := Lib.hid hb1
  have Hbw := Lib.hid (Below.trans Hb0.out (hb1.mono (by rw [Hsz.out]; omega)))
  have Hbx1 := Lib.hid (Hbx.out.below hb1 Hbx.out.lt)
  have Hlt1 : Hid (w.heap.size + 1 < w1.heap.size) := Lib.hid (by have := hb1.size; have := Hsz.out; omega)
  clear hbo1 hb1
  go_wp2_with fail
  refine (get_any (H.out.below Hbw.out) key hkey).mono ?_
  rintro e w5 ⟨v, rfl, hr, hb5⟩
  obtain ⟨Ax, cx, rfl, -⟩ := own_sliceN hr
  have hbx5 := Hbx1.out.below hb5 Hlt1.out
  have Hr := Lib.hid hr
  have Hb5 := Lib.hid hb5
  clear hr hb5
  unfold replyV
  generalize (getK key.data.toList E).isSome = there
  obtain ⟨r0, r1, r2, r3, r4, k0, k1, k2, k3, k4⟩ := box5 hbx5
  obtain ⟨W3, hW3⟩ : ∃ W3, ((((w5.setCell ⟨w.heap.size + 1, 0, none⟩ (.int .i64 0)).setCell ⟨w.heap.size + 1, 1, none⟩ (.bool there)).setCell ⟨w.heap.size + 1, 2, none⟩ (.slice Ax (recOf key.data.toList E).length cx)).setCell ⟨w.heap.size + 1, 3, none⟩ (.slice none 0 0)).setCell ⟨w.heap.size + 1, 4, none⟩ (.int .i64 0) = W3 := ⟨_, rfl⟩
  obtain ⟨p0, p1, p2, p3, p4, -⟩ := box5 (box5_store hbx5 hW3)
  have hrow := own_baseN (own5 Hr.out (show w.heap.size + 1 < w1.heap.size + 1 by have := Hlt1.out; omega) hW3) (show w.heap.size ≤ w1.heap.size + 1 by have := Hbw.out.size; omega)
  have hbel : Below w.heap.size w W3 := below5B (Hbw.out.trans (Hb5.out.mono Hbw.out.size)) (Nat.le_succ _) hW3
  have Hrow := Lib.hid hrow
  have Hbel := Lib.hid hbel
  clear hbx5 hrow hbel
  go_wp2
  refine bodyPost_ret (v := replyV 0 there (.slice Ax (recOf key.data.toList E).length cx) (.slice none 0 0) 0) ?_ rfl ⟨_, ⟨0, there, recOf key.data.toList E, [], 0⟩, rfl, ⟨_, _, rfl, Hrow.out, RowsIs.nil _ _⟩, Hbel.out⟩
  simp [results, Tryz.results9, go_sem, replyV, p0, p1, p2, p3, p4]
end
theorem get_below {w : World} {B sb mb : Nat} {S : PSt} (h : Stands w B sb mb S) (key : ByteArray) (hk : keyE key = 0) :
    Calls Tryz.prog 9 #[.pointer (some ⟨sb, 0, none⟩), .agg #[.int .i64 3, .string key, .string ⟨#[]⟩, .slice none 0 0, .slice none 0 0, .int .i64 0, .slice none 0 0, .slice none 0 0, .slice none 0 0, .int .i64 0, .int .i64 0, .int .i64 0]] w
      fun e w' => ∃ (u : Value) (a : Ans), e = .returned u ∧ AnsIs w' w.heap.size u a ∧ Below w.heap.size w w' := by
  obtain ⟨ix, E, X, h1, h2, h3⟩ := h
  exact do_get_below h1 w.heap.size (Nat.le_refl _) key ⟨#[]⟩ [] [] [] [] 0 0 0 0 [] none none none none none 0 0 0 0 0 0 0 0 0 0 ⟨_, _, _, _, _, rfl, isVals_nil _ _, isVals_nil _ _, isInts_nil _ _, isVals_nil _ _, isVals_nil _ _⟩ (by have := check_get key; rw [hk] at this; exact this) (by have := (keyE_ok hk).2; simp only [maxLen]; omega)
end Go.Proofs.YtknfjajmnlpfjaaGreat

namespace Go.Proofs.YtknfjajmnlpfjaaGreat
open Go.RowKit
open Go.Lib (strCells compareBytes)

theorem slint_elem : ElemN Tryz.prog 37 1 24 (.slice none 0 0) := ⟨by kernel_rfl, rfl⟩
/-- The pointer to block tb is the document's store: its rows in rv, the fields of all indexes that ever were in xv. -/
structure RSt (w : World) (B tb : Nat) (rv xv : Value) (rs : Kv (Value × List TVal)) (F : List (Value × List Int)) : Prop where
  tB : B ≤ tb
  box : Box w tb 47 #[rv, xv]
  rows : w.ownsRow B 55 2 rv rs.length (rowCells rs)
  recs : ∀ r ∈ rs, w.ownsRow B 53 3 r.2.1 r.2.2.length (valCells r.2.2)
  rise : Rise rs
  good : ∀ r ∈ rs, GoodRec r.2.2 ∧ keyOk r.1 = true
  xrow : w.ownsRow B 37 1 xv F.length (F.map (·.1))
  flds : ∀ x ∈ F, w.ownsRow B 3 1 x.1 x.2.length (intCells x.2)
  few : F.length ≤ 6
  ints : ∀ x ∈ F, x.2.length ≤ 2 ∧ ∀ n ∈ x.2, InI64 n
section
variable {w w' : World} {B tb : Nat} {rv xv : Value} {rs : Kv (Value × List TVal)} {F : List (Value × List Int)}
theorem RSt.lt (h : RSt w B tb rv xv rs F) : tb < w.heap.size := h.box.lt
/-- what keeps cells of these types keeps the store -/
theorem RSt.frame (h : RSt w B tb rv xv rs F) (hk : ∀ i cur t, w.heap[i]? = some (.cells cur t (0, 0)) → (t = 47 ∨ t = 55 ∨ t = 53 ∨ t = 37 ∨ t = 3) → B ≤ i → w'.heap[i]? = w.heap[i]?) : RSt w' B tb rv xv rs F := by
  refine { h with
    box := (hk tb _ _ h.box (.inl rfl) h.tB).trans h.box
    rows := own_keep h.rows fun g hg => ?_
    recs := fun r hr => own_keep (h.recs r hr) fun g hg => ?_
    xrow := own_keep h.xrow fun g hg => ?_
    flds := fun x hx => own_keep (h.flds x hx) fun g hg => ?_ }
  · obtain ⟨cur, hc⟩ := own_type h.rows hg
    exact hk g _ _ hc (.inr (.inl rfl)) (h.rows.lt g hg).1
  · obtain ⟨cur, hc⟩ := own_type (h.recs r hr) hg
    exact hk g _ _ hc (.inr (.inr (.inl rfl))) ((h.recs r hr).lt g hg).1
  · obtain ⟨cur, hc⟩ := own_type h.xrow hg
    exact hk g _ _ hc (.inr (.inr (.inr (.inl rfl)))) (h.xrow.lt g hg).1
  · obtain ⟨cur, hc⟩ := own_type (h.flds x hx) hg
    exact hk g _ _ hc (.inr (.inr (.inr (.inr rfl)))) ((h.flds x hx).lt g hg).1
theorem RSt.below (h : RSt w B tb rv xv rs F) (hb : Below w.heap.size w w') : RSt w' B tb rv xv rs F :=
  h.frame fun i _ _ hi _ _ => hb.block i (Array.getElem?_eq_some_iff.1 hi).1
theorem RSt.cells (h : RSt w B tb rv xv rs F) : w.cell? ⟨tb, 0, none⟩ = some rv ∧ w.cell? ⟨tb, 1, none⟩ = some xv ∧ w.frozen? ⟨tb, 0, none⟩ = false ∧ w.frozen? ⟨tb, 1, none⟩ = false :=
  ⟨h.box.cell 0, h.box.cell 1, h.box.frozen 0, h.box.frozen 1⟩
theorem refNew_any (w : World) (B : Nat) (hB : B ≤ w.heap.size) : Calls Tryz.prog 7 #[] w fun e w' => e = .returned (.pointer (some ⟨w.heap.size, 0, none⟩)) ∧ RSt w' B w.heap.size (.slice none 0 0) (.slice none 0 0) [] [] ∧ Below w.heap.size w w' := by
  have H : Hid (RSt (w.alloc (.cells #[.slice none 0 0, .slice none 0 0] 47)) B w.heap.size (.slice none 0 0) (.slice none 0 0) [] []) := Lib.hid {
    tB := hB
    box := Box.made _ _ _
    rows := World.ownsRow_nil _ _ _ _
    recs := by simp
    rise := Rise.nil
    good := by simp
    xrow := World.ownsRow_nil _ _ _ _
    flds := by simp
    few := by simp
    ints := by simp }
  go_enter Tryz.func7, Tryz.ntmps7
  go_wp2
  go_ret
  exact ⟨rfl, H.out, below_alloc _ _⟩
/-- element i of the rows: its key -/
theorem key_cell {N c i : Nat} {A : Option Addr} {x : List UInt8 × Value × List TVal} (h : w.ownsRow B 55 2 (.slice A N c) N (rowCells rs)) (hi : i < N) (hx : rs[i]? = some x) : ∃ a, A = some a ∧ w.cell? (a.add (i * 2)) = some (encStr x.1) := by
  obtain ⟨a, e, -, hc⟩ := (Has.of_ownN h).all (by omega)
  exact ⟨a, e, hc _ _ (rowCells_at rs i x hx).1⟩
theorem getK_at {α : Type} {k : List UInt8} {l : Kv α} (h : Rise l) {p : List UInt8 × α} (hp : l[posK k l]? = some p) : (getK k l).isSome = decide (p.1 = k) := by
  rw [getK_pos k l h, hp]
  by_cases e : p.1 = k <;> simp [e]
theorem getK_end {α : Type} {k : List UInt8} {l : Kv α} (h : Rise l) (hp : l.length ≤ posK k l) : (getK k l).isSome = false := by
  rw [getK_pos k l h, List.getElem?_eq_none hp]
  rfl
theorem beqL (a b : List UInt8) : (a == b) = decide (a = b) := by rw [Bool.eq_iff_iff]; simp
set_option maxRecDepth 100000 in
set_option maxHeartbeats 1600000 in
theorem refFind_any (h : RSt w B tb rv xv rs F) (s : ByteArray) (hl : rs.length ≤ 1000) :
    Calls Tryz.prog 31 #[.pointer (some ⟨tb, 0, none⟩), .string s] w fun e w' => e = .returned (.tuple #[.int .i64 (posK s.data.toList rs : Int), .bool (getK s.data.toList rs).isSome]) ∧ ∃ m, w' = w.drewN m := by
  obtain ⟨c0, -, -, -⟩ := h.cells
  have hrows := h.rows
  have hrise := h.rise
  obtain ⟨A, c, rfl, -⟩ := own_sliceN hrows
  have hpl := posK_le s.data.toList rs
  obtain ⟨N, hN⟩ : ∃ N, rs.length = N := ⟨_, rfl⟩
  obtain ⟨P, hP⟩ : ∃ P, posK s.data.toList rs = P := ⟨_, rfl⟩
  rw [hN] at c0 hrows hpl hl
  rw [hP] at hpl
  have HN := Lib.hid hN
  have HP := Lib.hid hP
  have Hrows := Lib.hid hrows
  have Hrise := Lib.hid hrise
  obtain ⟨b, hb⟩ : ∃ b, (getK s.data.toList rs).isSome = b := ⟨_, rfl⟩
  have HB := Lib.hid hb
  rw [hb, hP]
  clear h hrows hrise hN hP hb
  go_enter Tryz.func31, Tryz.ntmps31
  go_wp2
  go_loop [6] (fun i => ∃ k : Nat, k ≤ P ∧ i = .int .i64 (k : Int)) (fun i => P - (intOf i).toNat)
  case atStart => exact ⟨0, by omega, rfl⟩
  case round =>
    obtain ⟨k, hk, rfl⟩ := hrel
    have k0 : (0 : Int) ≤ (k : Int) := by omega
    by_cases hkN : k < N
    · obtain ⟨x, hx⟩ : ∃ x, rs[k]? = some x := ⟨_, List.getElem?_eq_getElem (by have := HN.out; omega)⟩
      obtain ⟨a, rfl, hc⟩ := key_cell Hrows.out hkN hx
      have k1 : (k : Int) < (N : Int) := by omega
      unfold encStr at hc
      by_cases hkP : k < P
      · have hless : Op.bytesLess x.1 s.toList = true := by
          rw [bytesLess_lt, Lib.toList_data]
          exact decide_eq_true (posK_lt (by rw [HP.out]; exact hkP) hx)
        clear hx
        go_wp2
        go_round
        case rel => exact ⟨k + 1, by omega, by go_num⟩
        case measure => simp [intOf]; omega
      · obtain rfl : k = P := by omega
        have hless : Op.bytesLess x.1 s.toList = false := by
          rw [bytesLess_lt, Lib.toList_data]
          exact decide_eq_false (by have := HP.out; subst this; exact posK_at hx)
        have heq : (x.1 == s.toList) = b := by
          rw [Lib.toList_data, beqL, ← HB.out, getK_at Hrise.out (p := x) (by rw [HP.out]; exact hx)]
        clear hx
        go_wp2
        go_quiet (fail)
        go_wp2
        go_ret2
        exact ⟨rfl, _, rfl⟩
    · have k1 : (N : Int) ≤ (k : Int) := by omega
      have hkd : decide ((k : Int) < (N : Int)) = false := by simp; omega
      have hkP : k = P := by omega
      have hbf : b = false := by rw [← HB.out]; exact getK_end Hrise.out (by rw [HP.out, HN.out]; omega)
      subst hbf
      subst hkP
      go_wp2
      go_quiet (fail)
      go_wp2
      go_ret2
      exact ⟨rfl, _, rfl⟩
end
/-- the document's SameTexts, of texts that are the same -/
def HasTexts (w : World) (B : Nat) (A : Option Addr) (n : Nat) (l : List (List UInt8)) : Prop := l.length = n ∧ Has w B A n (strRow l)
set_option maxRecDepth 100000 in
set_option maxHeartbeats 1600000 in
theorem sameTexts_eq (A A' : Option Addr) (n c c' C C' : Nat) (l : List (List UInt8)) (w : World) (h : HasTexts w C A n l) (h' : HasTexts w C' A' n l) (hn : n ≤ 1000000) :
    Calls Tryz.prog 11 #[.slice A n c, .slice A' n c'] w fun e w' => e = .returned (.bool true) ∧ ∃ m, w' = w.drewN m := by
  have H := Lib.hid h
  have H' := Lib.hid h'
  clear h h'
  go_enter Tryz.func11, Tryz.ntmps11
  go_wp2
  go_loopw [5] (fun i wr => ∃ k : Nat, k ≤ n ∧ i = .int .i64 (k : Int) ∧ ∃ m, wr = w.drewN m) (fun i _ => n - (intOf i).toNat)
  case atStart => exact ⟨0, by omega, rfl, 0, rfl⟩
  case round =>
    obtain ⟨k, hk, rfl, md, hmd⟩ := hrel
    have Hc : Hid (∀ p, wr.cell? p = w.cell? p) := Lib.hid (by rw [hmd]; exact fun _ => rfl)
    have Hd : Hid (∀ j, ∃ m, wr.drewN j = w.drewN m) := Lib.hid fun j => ⟨_, by rw [hmd]; exact World.drewN_drewN _ _ _⟩
    clear hmd
    by_cases hlt : k < n
    · obtain ⟨x, hx⟩ : ∃ x, (strRow l)[k]? = some x := ⟨_, List.getElem?_eq_getElem (by simp [strRow]; have := H.out.1; omega)⟩
      obtain ⟨s, rfl⟩ : ∃ s : ByteArray, x = .string s := by
        have : x ∈ strRow l := List.mem_of_getElem? hx
        simp only [strRow, List.mem_map] at this
        obtain ⟨y, _, rfl⟩ := this
        exact ⟨_, rfl⟩
      obtain ⟨a, rfl, -, h1⟩ := H.out.2.all (by omega)
      obtain ⟨b, rfl, -, h2⟩ := H'.out.2.all (by omega)
      have p0 := (Hc.out _).trans (h1 k _ hx)
      have p1 := (Hc.out _).trans (h2 k _ hx)
      have k0 : (0 : Int) ≤ (k : Int) := by omega
      have k1 : (k : Int) < (n : Int) := by omega
      have ne : (s.toList == s.toList) = true := by simp
      clear h1 h2 hx
      go_wp2
      go_quiet (fail)
      go_wp2
      go_roundw
      case rel => exact ⟨k + 1, by omega, by go_num, Hd.out _⟩
      case measure => simp [intOf]; omega
    · have k1 : (n : Int) ≤ (k : Int) := by omega
      go_wp2
      go_ret
      exact ⟨rfl, Hd.out 0⟩
end Go.Proofs.YtknfjajmnlpfjaaGreat

namespace Go.Proofs.YtknfjajmnlpfjaaGreat
open Go.RowKit
open Go.Lib (strCells compareBytes)

theorem rowCells_take (l : Kv (Value × List TVal)) (k : Nat) (h : k ≤ l.length) : (rowCells l).take (k * 2) = rowCells (l.take k) := by
  conv => lhs; rw [← List.take_append_drop k l, rowCells_app]
  rw [List.take_left' (by rw [rowCells_len, List.length_take]; omega)]
theorem rowCells_drop (l : Kv (Value × List TVal)) (k : Nat) (h : k ≤ l.length) : (rowCells l).drop (k * 2) = rowCells (l.drop k) := by
  conv => lhs; rw [← List.take_append_drop k l, rowCells_app]
  rw [List.drop_left' (by rw [rowCells_len, List.length_take]; omega)]
theorem rowCells_oneC (l : Kv (Value × List TVal)) (h : ∀ r ∈ l, ∃ A n c, r.2.1 = .slice A n c) : ∀ u ∈ rowCells l, u.oneCell' = true := by
  induction l with
  | nil => intro u hu; simp [rowCells] at hu
  | cons r l ih =>
    intro u hu
    simp only [rowCells, List.mem_cons] at hu
    rcases hu with rfl | rfl | hu
    · rfl
    · obtain ⟨A, n, c, e⟩ := h r (by simp)
      rw [e]
      rfl
    · exact ih (fun q hq => h q (by simp [hq])) u hu
/-- rows from row k on -/
theorem rows_from {w : World} {B N c : Nat} {A : Option Addr} {rs : Kv (Value × List TVal)} (h : Has w B A (N * 2) (rowCells rs)) (hl : rs.length = N) {k : Nat} (hk : k ≤ N) (hc : N ≤ c) : Has w B (if c = k then A else A.map (·.add (k * 2))) ((N - k) * 2) (rowCells (rs.drop k)) := by
  rw [← rowCells_drop rs k (by omega), Nat.sub_mul]
  rcases Nat.lt_or_ge k N with hlt | hge
  · rw [if_neg (by omega)]
    exact Has.drop h (by omega)
  · have e : (rowCells rs).drop (k * 2) = [] := List.drop_eq_nil_of_le (by rw [rowCells_len]; omega)
    rw [e, show N * 2 - k * 2 = 0 by omega]
    exact Has.nil _ _ _
theorem encStr_data (s : ByteArray) : encStr s.data.toList = .string s := by unfold encStr; simp
theorem own_eqR {w : World} {B m m' : Nat} {v : Value} {xs xs' : List Value} (h : w.ownsRow B 55 2 v m xs) (hm : m = m') (hx : xs = xs') : w.ownsRow B 55 2 v m' xs' := by
  subst hm
  subst hx
  exact h
section
variable {w : World} {B tb : Nat} {rv xv : Value} {rs : Kv (Value × List TVal)} {F : List (Value × List Int)}
theorem RSt.slices (h : RSt w B tb rv xv rs F) : ∀ r ∈ rs, ∃ A n c, r.2.1 = .slice A n c := fun r hr => by
  obtain ⟨A, c, e, -⟩ := own_sliceN (h.recs r hr)
  exact ⟨A, _, c, e⟩
/-- the store with other rows -/
theorem RSt.newRows {W : World} {rv' : Value} {rs' : Kv (Value × List TVal)} (h : RSt w B tb rv xv rs F) (hg : ∀ i, i < w.heap.size → i ≠ tb → W.heap[i]? = w.heap[i]?) (hb : Box W tb 47 #[rv', xv]) (h1 : W.ownsRow B 55 2 rv' rs'.length (rowCells rs')) (h2 : ∀ r ∈ rs', W.ownsRow B 53 3 r.2.1 r.2.2.length (valCells r.2.2))
    (h3 : Rise rs') (h4 : ∀ r ∈ rs', GoodRec r.2.2 ∧ keyOk r.1 = true) : RSt W B tb rv' xv rs' F := by
  have hne : ∀ {size m : Nat} {e : TypeId} {v : Value} {xs : List Value}, e ≠ 47 → w.ownsRow B e size v m xs → W.ownsRow B e size v m xs := fun he ho => own_keep ho fun i hi => hg i (ho.lt i hi).2 fun e => by
    obtain ⟨cur, hc⟩ := own_type ho hi
    have hbx := h.box
    unfold Box at hbx
    rw [e, hbx] at hc
    injection hc with hc; injection hc with _ hc; exact he hc.symm
  exact { tB := h.tB, box := hb, rows := h1, recs := h2, rise := h3, good := h4, xrow := hne (by decide) h.xrow, flds := fun x hx => hne (by decide) (h.flds x hx), few := h.few, ints := h.ints }
theorem RSt.recKeep {W : World} (h : RSt w B tb rv xv rs F) (hg : ∀ i, i < w.heap.size → i ≠ tb → W.heap[i]? = w.heap[i]?) : ∀ r ∈ rs, W.ownsRow B 53 3 r.2.1 r.2.2.length (valCells r.2.2) := fun r hr =>
  own_keep (h.recs r hr) fun i hi => hg i ((h.recs r hr).lt i hi).2 fun e => by
    obtain ⟨cur, hc⟩ := own_type (h.recs r hr) hi
    have hbx := h.box
    unfold Box at hbx
    rw [e, hbx] at hc
    injection hc with hc; injection hc with _ hc; exact absurd hc (by decide)


theorem getK_isSome_lt {α : Type} {k : List UInt8} {l : Kv α} (h : Rise l) (hs : (getK k l).isSome = true) : posK k l < l.length := by
  rcases Nat.lt_or_ge (posK k l) l.length with e | e
  · exact e
  · rw [getK_end h e] at hs
    cases hs
/-- what put leaves -/
theorem refPut_end {x4 x5 W : World} {v2 v3 vo : Value} {k : List UInt8} {l : List TVal} {J : Nat} (h : RSt w B tb rv xv rs F) (hb4 : Below w.heap.size w x4) (o2 : x4.ownsRow w.heap.size 55 2 v2 (posK k rs + 1) (rowCells (rs.take (posK k rs) ++ [(k, vo, l)]))) (oo : x4.ownsRow w.heap.size 53 3 vo l.length (valCells l))
    (hJ : J = if (getK k rs).isSome then posK k rs + 1 else posK k rs) (o3 : x5.ownsRow w.heap.size 55 2 v3 (posK k rs + 1 + (rs.length - J)) (rowCells (rs.take (posK k rs) ++ [(k, vo, l)]) ++ rowCells (rs.drop J))) (g3 : x4.grownBy x5 v2.ownBlock) (hg : GoodRec l) (hk : keyOk k = true) (hW : x5.setCell ⟨tb, 0, none⟩ v3 = W) :
    RSt W B tb v3 xv (putK k (vo, l) rs) F ∧ w.grownBy W (some tb) := by
  have hput := putK_pos k (vo, l) rs h.rise
  rw [← hJ] at hput
  have hpl := posK_le k rs
  have hJl : J ≤ rs.length := by
    rw [hJ]
    by_cases e : (getK k rs).isSome = true
    · have := getK_isSome_lt h.rise e
      rw [if_pos e]; omega
    · rw [if_neg e]; omega
  have hBw : B ≤ w.heap.size := by have := h.tB; have := h.lt; omega
  have htb2 : ∀ g, v2.ownBlock = some g → w.heap.size ≤ g := fun g e => (o2.lt g e).1
  have hk5 : ∀ i, i < w.heap.size → i ≠ tb → W.heap[i]? = w.heap[i]? := fun i hi hne => by
    rw [← hW, Below.heap_setCell _ _ _ _ hne, g3.block i (Nat.lt_of_lt_of_le hi hb4.size) (fun e => by have := htb2 i e.symm; omega), hb4.block i hi]
  have hbx : Box W tb 47 #[v3, xv] := hW ▸ ((h.box.below hb4 h.lt).grown g3 (fun e => by have := htb2 tb e.symm; have := h.lt; omega)).set_ 0 v3
  have hfar : ∀ {size m : Nat} {e : TypeId} {v : Value} {xs : List Value}, x5.ownsRow w.heap.size e size v m xs → W.ownsRow w.heap.size e size v m xs := fun ho => own_keep ho fun i hi => by
    rw [← hW]
    exact Below.heap_setCell _ _ _ _ (fun e => by have h1 := (ho.lt i hi).1; have h2 := h.lt; have h3 : i = tb := e; omega)
  have oo5 : x5.ownsRow w.heap.size 53 3 vo l.length (valCells l) := own_keep oo fun i hi => g3.block i (oo.lt i hi).2 fun e => by
    obtain ⟨cur, hc⟩ := own_type oo hi
    obtain ⟨cur', hc'⟩ := own_type o2 e.symm
    rw [hc'] at hc
    injection hc with hc; injection hc with _ hc; exact absurd hc (by decide)
  refine ⟨h.newRows hk5 hbx (own_baseN (own_eqR (hfar o3) ?_ ?_) hBw) (fun r hr => ?_) h.rise.put (fun r hr => ?_), ⟨?_, ?_, ?_, ?_, fun i hi hne => hk5 i hi fun e => hne (by rw [e])⟩⟩
  · rw [hput, List.length_append, List.length_take, List.length_cons, List.length_drop]
    omega
  · rw [hput, ← rowCells_app, List.append_assoc]
    rfl
  · rcases mem_putK hr with rfl | hr
    · exact own_baseN (hfar oo5) hBw
    · exact h.recKeep hk5 r hr
  · rcases mem_putK hr with rfl | hr
    · exact ⟨hg, hk⟩
    · exact h.good r hr
  · rw [← hW]; exact g3.os.trans hb4.os
  · rw [← hW]; exact g3.tape.trans hb4.tape
  · rw [← hW]; exact g3.output.trans hb4.output
  · rw [← hW]; simp only [World.setCell, Array.size_modify]; exact Nat.le_trans hb4.size g3.size

set_option maxRecDepth 100000 in
set_option maxHeartbeats 3200000 in
theorem refPut_any (h : RSt w B tb rv xv rs F) (s : ByteArray) (Ar : Option Addr) (nr cr C : Nat) (l : List TVal) (hr : HasVals w C Ar nr l) (hC : C ≤ w.heap.size) (hg : GoodRec l) (hk : keyOk s.data.toList = true) (hl : rs.length ≤ 1000) :
    Calls Tryz.prog 32 #[.pointer (some ⟨tb, 0, none⟩), .string s, .slice Ar nr cr] w fun e w' => e = .returned (.tuple #[]) ∧ ∃ rv' vo, RSt w' B tb rv' xv (putK s.data.toList (vo, l) rs) F ∧ w.grownBy w' (some tb) := by
  have Hfind := Lib.hid (refFind_any h s hl)
  have hpl := posK_le s.data.toList rs
  have hlt := fun e => getK_isSome_lt (k := s.data.toList) h.rise e
  have hnr : nr ≤ 4 := by rw [← hr.1]; exact hg.le
  obtain ⟨P, hP⟩ : ∃ P, posK s.data.toList rs = P := ⟨_, rfl⟩
  obtain ⟨is, his⟩ : ∃ b, (getK s.data.toList rs).isSome = b := ⟨_, rfl⟩
  obtain ⟨N, hN⟩ : ∃ N, rs.length = N := ⟨_, rfl⟩
  rw [hP, hN] at hpl
  rw [his, hP, hN] at hlt
  rw [hP, his] at Hfind
  rw [hN] at hl
  have HP := Lib.hid hP
  have HS := Lib.hid his
  have HN := Lib.hid hN
  have H := Lib.hid h
  have Hr := Lib.hid hr
  have Hg := Lib.hid hg
  have Hk := Lib.hid hk
  have HC := Lib.hid hC
  have Hsl := Lib.hid h.slices
  have hrows := h.rows
  rw [hN] at hrows
  obtain ⟨A, c, hre, hNc, hcm, hh⟩ := own_sliceN hrows
  obtain ⟨c0, -, f0, -⟩ := h.cells
  rw [hre] at c0
  have Hh := Lib.hid hh
  have Htb := Lib.hid h.lt
  have Hrl : Hid (l.length = nr) := Lib.hid hr.1
  clear h hP his hN hr hg hk hC hrows hh
  go_enter Tryz.func32, Tryz.ntmps32
  go_wp2_with fail
  refine Hfind.out.mono ?_
  rintro e w1 ⟨rfl, md, h1⟩
  have Hb1 : Hid (Below w.heap.size w w1) := Lib.hid (by rw [h1]; exact below_drews (Below.refl _ _) md)
  have Hz1 : Hid (w1.heap.size = w.heap.size) := Lib.hid (by rw [h1]; rfl)
  have c1 : w1.cell? ⟨tb, 0, none⟩ = some (.slice A N c) := by rw [h1]; exact c0
  have p0 : (0 : Int) ≤ (P : Int) := by omega
  have p1 : (P : Int) ≤ (c : Int) := by omega
  clear h1 c0 f0
  have Hh1 := Lib.hid (Hh.out.belowOf Hb1.out (Nat.le_refl _))
  have Hsrc : Hid (Has w1 w.heap.size A (P * 2) (rowCells (rs.take P))) := Lib.hid (by
    rw [← rowCells_take rs P (by rw [HN.out]; exact hpl)]
    exact Has.take Hh1.out (by omega))
  cases is with
  | false =>
    obtain ⟨D, hD⟩ : ∃ D, (if c = P then A else A.map (·.add ((P) * 2))) = D := ⟨_, rfl⟩
    have j0 : (0 : Int) ≤ (P : Int) + 1 := by omega
    have jc : (((P : Nat)) : Int) ≤ (N : Int) := by omega
    have jd : (((P : Nat)) : Int) ≤ (c : Int) := by omega
    go_wp2_with (first
      | (at_builtin; refine wpList_append_hasN rfl (.tmp 16) (.tmp 22) _ rfl 55 row_elem (by omega) Tryz.underlying33 rfl (World.ownsRow_nil w1 w1.heap.size 55 2) rfl Hsrc.out (rowCells_oneC _ (fun r hr => Hsl.out r (List.mem_of_mem_take hr))) (by simp only [maxLen]; omega) (by omega) (Nat.le_refl _) ?_; intro v1 x1 ho1 hg1 hz1; have B1 : Hid (Below w1.heap.size w1 x1) := Lib.hid (below_ownN (Below.refl _ _) (World.ownsRow_nil w1 w1.heap.size 55 2) hg1 (Nat.le_refl _)); have O1 := Lib.hid (own_eqR ho1 (Nat.zero_add _) (List.nil_append _)); have R1 := Lib.hid ((Hr.out.2.belowOf Hb1.out HC.out).belowOf B1.out (by have := HC.out; have := Hz1.out; omega)); obtain ⟨Aa, ca, rfl, -⟩ := own_sliceN O1.out; clear ho1 hg1 hz1 c1)
      | (at_builtin; refine wpList_append_hasN rfl (.tmp 24) (.tmp 25) _ rfl 53 val_elem (by omega) Tryz.underlying32 rfl (World.ownsRow_nil x1 x1.heap.size 53 3) rfl R1.out (valCells_one _) (by simp only [maxLen]; omega) (by omega) (Nat.le_refl _) ?_; intro v2 x2 ho2 hg2 hz2; have B2 : Hid (Below x1.heap.size x1 x2) := Lib.hid (below_ownN (Below.refl _ _) (World.ownsRow_nil x1 x1.heap.size 53 3) hg2 (Nat.le_refl _)); have ho2' : x2.ownsRow x1.heap.size 53 3 v2 nr (valCells l) := (by have e := ho2; rw [Nat.zero_add, List.nil_append] at e; exact e); obtain ⟨Ao, co, rfl, -⟩ := own_sliceN ho2'; have O2 := Lib.hid ho2'; have O12 := Lib.hid (own_belowN O1.out B2.out); clear ho2 hg2 hz2 ho2')
      | (at_builtin; refine wpList_append_hasN rfl (.tmp 27) (.tmp 31) _ rfl 55 row_elem (by omega) Tryz.underlying33 rfl (own_belowN O12.out (below_alloc _ _)) rfl (Has.lit x2 #[.string s, .slice Ao nr co] _) (by intro u hu; simp at hu; rcases hu with rfl | rfl <;> rfl) (by simp only [maxLen]; omega) (by omega) (by have h1 := B1.out.size; have h2 := B2.out.size; simp; omega) ?_; intro v3 x4 ho3 hg3 hz3; have BX : Hid (Below x2.heap.size x2 (x2.alloc (.cells #[.string s, .slice Ao nr co] 55))) := Lib.hid (below_alloc _ _); have BL : Hid (Below w.heap.size w (x2.alloc (.cells #[.string s, .slice Ao nr co] 55))) := Lib.hid (Hb1.out.trans (((B1.out.trans (B2.out.mono B1.out.size)).trans (BX.out.mono (Nat.le_trans B1.out.size B2.out.size))).mono (by have := Hz1.out; omega))); have O12b : Hid (x2.ownsRow w.heap.size 55 2 (.slice Aa P ca) P (rowCells (rs.take P))) := Lib.hid (own_baseN O12.out (by have := Hz1.out; omega)); have ne4 : some tb ≠ (Value.slice Aa P ca).ownBlock := (fun e => by have h1 := (O12b.out.lt tb e.symm).1; have h2 := Htb.out; omega); have bx4 := (H.out.box.below BL.out Htb.out).grown hg3 ne4; have c4 := bx4.cell 0; rw [hre] at c4; have Bx4 := Lib.hid bx4; have B4 : Hid (Below w.heap.size w x4) := Lib.hid (BL.out.grown hg3 BL.out.size (fun g e => (O12b.out.lt g e).1)); have O3 : Hid (x4.ownsRow w.heap.size 55 2 v3 (P + 1) (rowCells (rs.take P ++ [(s.data.toList, .slice Ao nr co, l)]))) := Lib.hid (own_baseN (own_eqR ho3 rfl (by rw [rowCells_app]; simp [rowCells, encStr_data])) (by have := Hz1.out; omega)); have OO : Hid (x4.ownsRow w.heap.size 53 3 (.slice Ao nr co) l.length (valCells l)) := Lib.hid (by rw [Hrl.out]; exact own_baseN (own_keep (own_belowN O2.out BX.out) (fun g hg => hg3.block g ((own_belowN O2.out BX.out).lt g hg).2 (fun e => by obtain ⟨cur, hc⟩ := own_type (own_belowN O2.out BX.out) hg; obtain ⟨cur', hc'⟩ := own_type (own_belowN O12b.out BX.out) e.symm; rw [hc'] at hc; injection hc with hc; injection hc with _ hc; exact absurd hc (by decide)))) (by have h1 := B1.out.size; have h2 := Hz1.out; omega)); obtain ⟨Ab, cb, rfl, -⟩ := own_sliceN O3.out; have Src : Hid (Has x4 w.heap.size D ((N - P) * 2) (rowCells (rs.drop P))) := Lib.hid (by rw [← hD]; exact rows_from (Hh.out.belowOf B4.out (Nat.le_refl _)) HN.out (by omega) hNc); clear ho3 hg3 hz3 bx4 ne4)
      | (at_builtin; refine wpList_append_hasN rfl (.tmp 37) (.tmp 43) _ rfl 55 row_elem (by omega) Tryz.underlying33 rfl O3.out rfl Src.out (rowCells_oneC _ (fun r hr => Hsl.out r (List.mem_of_mem_drop hr))) (by simp only [maxLen]; omega) (by omega) B4.out.size ?_; intro v5 x5 ho5 hg5 hz5; have ne5 : some tb ≠ (Value.slice Ab (P + 1) cb).ownBlock := (fun e => by have h1 := (O3.out.lt tb e.symm).1; have h2 := Htb.out; omega); have bx5 := Bx4.out.grown hg5 ne5; have c5 := bx5.cell 0; have f5 := bx5.frozen 0; obtain ⟨Ac, cc, rfl, -⟩ := own_sliceN ho5; have O5 := Lib.hid ho5; have G5 := Lib.hid hg5; clear ho5 hg5 hz5 bx5 ne5))
    go_end0
    refine ⟨rfl, _, .slice Ao nr co, refPut_end (J := P) H.out B4.out (by rw [HP.out]; exact O3.out) OO.out (by rw [HS.out, HP.out]; rfl) (by rw [HP.out, HN.out]; exact O5.out) G5.out Hg.out Hk.out rfl⟩
  | true =>
    have hPN := hlt rfl
    obtain ⟨D, hD⟩ : ∃ D, (if c = (P + 1) then A else A.map (·.add (((P + 1)) * 2))) = D := ⟨_, rfl⟩
    have j0 : (0 : Int) ≤ (P : Int) + 1 := by omega
    have jc : ((((P + 1) : Nat)) : Int) ≤ (N : Int) := by omega
    have jd : ((((P + 1) : Nat)) : Int) ≤ (c : Int) := by omega
    go_wp2_with (first
      | (at_builtin; refine wpList_append_hasN rfl (.tmp 16) (.tmp 22) _ rfl 55 row_elem (by omega) Tryz.underlying33 rfl (World.ownsRow_nil w1 w1.heap.size 55 2) rfl Hsrc.out (rowCells_oneC _ (fun r hr => Hsl.out r (List.mem_of_mem_take hr))) (by simp only [maxLen]; omega) (by omega) (Nat.le_refl _) ?_; intro v1 x1 ho1 hg1 hz1; have B1 : Hid (Below w1.heap.size w1 x1) := Lib.hid (below_ownN (Below.refl _ _) (World.ownsRow_nil w1 w1.heap.size 55 2) hg1 (Nat.le_refl _)); have O1 := Lib.hid (own_eqR ho1 (Nat.zero_add _) (List.nil_append _)); have R1 := Lib.hid ((Hr.out.2.belowOf Hb1.out HC.out).belowOf B1.out (by have := HC.out; have := Hz1.out; omega)); obtain ⟨Aa, ca, rfl, -⟩ := own_sliceN O1.out; clear ho1 hg1 hz1 c1)
      | (at_builtin; refine wpList_append_hasN rfl (.tmp 24) (.tmp 25) _ rfl 53 val_elem (by omega) Tryz.underlying32 rfl (World.ownsRow_nil x1 x1.heap.size 53 3) rfl R1.out (valCells_one _) (by simp only [maxLen]; omega) (by omega) (Nat.le_refl _) ?_; intro v2 x2 ho2 hg2 hz2; have B2 : Hid (Below x1.heap.size x1 x2) := Lib.hid (below_ownN (Below.refl _ _) (World.ownsRow_nil x1 x1.heap.size 53 3) hg2 (Nat.le_refl _)); have ho2' : x2.ownsRow x1.heap.size 53 3 v2 nr (valCells l) := (by have e := ho2; rw [Nat.zero_add, List.nil_append] at e; exact e); obtain ⟨Ao, co, rfl, -⟩ := own_sliceN ho2'; have O2 := Lib.hid ho2'; have O12 := Lib.hid (own_belowN O1.out B2.out); clear ho2 hg2 hz2 ho2')
      | (at_builtin; refine wpList_append_hasN rfl (.tmp 27) (.tmp 31) _ rfl 55 row_elem (by omega) Tryz.underlying33 rfl (own_belowN O12.out (below_alloc _ _)) rfl (Has.lit x2 #[.string s, .slice Ao nr co] _) (by intro u hu; simp at hu; rcases hu with rfl | rfl <;> rfl) (by simp only [maxLen]; omega) (by omega) (by have h1 := B1.out.size; have h2 := B2.out.size; simp; omega) ?_; intro v3 x4 ho3 hg3 hz3; have BX : Hid (Below x2.heap.size x2 (x2.alloc (.cells #[.string s, .slice Ao nr co] 55))) := Lib.hid (below_alloc _ _); have BL : Hid (Below w.heap.size w (x2.alloc (.cells #[.string s, .slice Ao nr co] 55))) := Lib.hid (Hb1.out.trans (((B1.out.trans (B2.out.mono B1.out.size)).trans (BX.out.mono (Nat.le_trans B1.out.size B2.out.size))).mono (by have := Hz1.out; omega))); have O12b : Hid (x2.ownsRow w.heap.size 55 2 (.slice Aa P ca) P (rowCells (rs.take P))) := Lib.hid (own_baseN O12.out (by have := Hz1.out; omega)); have ne4 : some tb ≠ (Value.slice Aa P ca).ownBlock := (fun e => by have h1 := (O12b.out.lt tb e.symm).1; have h2 := Htb.out; omega); have bx4 := (H.out.box.below BL.out Htb.out).grown hg3 ne4; have c4 := bx4.cell 0; rw [hre] at c4; have Bx4 := Lib.hid bx4; have B4 : Hid (Below w.heap.size w x4) := Lib.hid (BL.out.grown hg3 BL.out.size (fun g e => (O12b.out.lt g e).1)); have O3 : Hid (x4.ownsRow w.heap.size 55 2 v3 (P + 1) (rowCells (rs.take P ++ [(s.data.toList, .slice Ao nr co, l)]))) := Lib.hid (own_baseN (own_eqR ho3 rfl (by rw [rowCells_app]; simp [rowCells, encStr_data])) (by have := Hz1.out; omega)); have OO : Hid (x4.ownsRow w.heap.size 53 3 (.slice Ao nr co) l.length (valCells l)) := Lib.hid (by rw [Hrl.out]; exact own_baseN (own_keep (own_belowN O2.out BX.out) (fun g hg => hg3.block g ((own_belowN O2.out BX.out).lt g hg).2 (fun e => by obtain ⟨cur, hc⟩ := own_type (own_belowN O2.out BX.out) hg; obtain ⟨cur', hc'⟩ := own_type (own_belowN O12b.out BX.out) e.symm; rw [hc'] at hc; injection hc with hc; injection hc with _ hc; exact absurd hc (by decide)))) (by have h1 := B1.out.size; have h2 := Hz1.out; omega)); obtain ⟨Ab, cb, rfl, -⟩ := own_sliceN O3.out; have Src : Hid (Has x4 w.heap.size D ((N - (P + 1)) * 2) (rowCells (rs.drop (P + 1)))) := Lib.hid (by rw [← hD]; exact rows_from (Hh.out.belowOf B4.out (Nat.le_refl _)) HN.out (by omega) hNc); clear ho3 hg3 hz3 bx4 ne4)
      | (at_builtin; refine wpList_append_hasN rfl (.tmp 37) (.tmp 43) _ rfl 55 row_elem (by omega) Tryz.underlying33 rfl O3.out rfl Src.out (rowCells_oneC _ (fun r hr => Hsl.out r (List.mem_of_mem_drop hr))) (by simp only [maxLen]; omega) (by omega) B4.out.size ?_; intro v5 x5 ho5 hg5 hz5; have ne5 : some tb ≠ (Value.slice Ab (P + 1) cb).ownBlock := (fun e => by have h1 := (O3.out.lt tb e.symm).1; have h2 := Htb.out; omega); have bx5 := Bx4.out.grown hg5 ne5; have c5 := bx5.cell 0; have f5 := bx5.frozen 0; obtain ⟨Ac, cc, rfl, -⟩ := own_sliceN ho5; have O5 := Lib.hid ho5; have G5 := Lib.hid hg5; clear ho5 hg5 hz5 bx5 ne5))
    go_end0
    refine ⟨rfl, _, .slice Ao nr co, refPut_end (J := (P + 1)) H.out B4.out (by rw [HP.out]; exact O3.out) OO.out (by rw [HS.out, HP.out]; rfl) (by rw [HP.out, HN.out]; exact O5.out) G5.out Hg.out Hk.out rfl⟩
end
end Go.Proofs.YtknfjajmnlpfjaaGreat

namespace Go.Proofs.YtknfjajmnlpfjaaGreat
open Go.RowKit
open Go.Lib (strCells compareBytes)

section
variable {w : World} {B tb : Nat} {rv xv : Value} {rs : Kv (Value × List TVal)} {F : List (Value × List Int)}
/-- what del leaves where the key is there -/
theorem refDel_end {x1 x2 W : World} {v1 v2 : Value} {k : List UInt8} (h : RSt w B tb rv xv rs F) (hb1 : Below w.heap.size w x1) (o1 : x1.ownsRow w.heap.size 55 2 v1 (posK k rs) (rowCells (rs.take (posK k rs)))) (his : (getK k rs).isSome = true)
    (o2 : x2.ownsRow w.heap.size 55 2 v2 (posK k rs + (rs.length - (posK k rs + 1))) (rowCells (rs.take (posK k rs)) ++ rowCells (rs.drop (posK k rs + 1)))) (g2 : x1.grownBy x2 v1.ownBlock) (hW : x2.setCell ⟨tb, 0, none⟩ v2 = W) :
    RSt W B tb v2 xv (delK k rs) F ∧ w.grownBy W (some tb) := by
  have hdel := delK_pos k rs h.rise
  rw [if_pos his] at hdel
  have hpl := getK_isSome_lt h.rise his
  have hBw : B ≤ w.heap.size := by have := h.tB; have := h.lt; omega
  have htb2 : ∀ g, v1.ownBlock = some g → w.heap.size ≤ g := fun g e => (o1.lt g e).1
  have hk5 : ∀ i, i < w.heap.size → i ≠ tb → W.heap[i]? = w.heap[i]? := fun i hi hne => by
    rw [← hW, Below.heap_setCell _ _ _ _ hne, g2.block i (Nat.lt_of_lt_of_le hi hb1.size) (fun e => by have := htb2 i e.symm; omega), hb1.block i hi]
  have hbx : Box W tb 47 #[v2, xv] := hW ▸ ((h.box.below hb1 h.lt).grown g2 (fun e => by have := htb2 tb e.symm; have := h.lt; omega)).set_ 0 v2
  have o2W : W.ownsRow w.heap.size 55 2 v2 (posK k rs + (rs.length - (posK k rs + 1))) (rowCells (rs.take (posK k rs)) ++ rowCells (rs.drop (posK k rs + 1))) := own_keep o2 fun i hi => by
    rw [← hW]
    exact Below.heap_setCell _ _ _ _ (fun e => by have h1 := (o2.lt i hi).1; have h2 := h.lt; have h3 : i = tb := e; omega)
  refine ⟨h.newRows hk5 hbx (own_baseN (own_eqR o2W ?_ ?_) hBw) (fun r hr => h.recKeep hk5 r (mem_delK hr)) h.rise.del (fun r hr => h.good r (mem_delK hr)), ⟨?_, ?_, ?_, ?_, fun i hi hne => hk5 i hi fun e => hne (by rw [e])⟩⟩
  · rw [hdel, List.length_append, List.length_take, List.length_drop]
    omega
  · rw [hdel, ← rowCells_app]
  · rw [← hW]; exact g2.os.trans hb1.os
  · rw [← hW]; exact g2.tape.trans hb1.tape
  · rw [← hW]; exact g2.output.trans hb1.output
  · rw [← hW]; simp only [World.setCell, Array.size_modify]; exact Nat.le_trans hb1.size g2.size
set_option maxRecDepth 100000 in
set_option maxHeartbeats 3200000 in
theorem refDel_any (h : RSt w B tb rv xv rs F) (s : ByteArray) (hl : rs.length ≤ 1000) :
    Calls Tryz.prog 33 #[.pointer (some ⟨tb, 0, none⟩), .string s] w fun e w' => e = .returned (.tuple #[]) ∧ ∃ rv', RSt w' B tb rv' xv (delK s.data.toList rs) F ∧ w.grownBy w' (some tb) := by
  have Hfind := Lib.hid (refFind_any h s hl)
  have hpl := posK_le s.data.toList rs
  have hlt := fun e => getK_isSome_lt (k := s.data.toList) h.rise e
  have hdel := delK_pos s.data.toList rs h.rise
  obtain ⟨P, hP⟩ : ∃ P, posK s.data.toList rs = P := ⟨_, rfl⟩
  obtain ⟨is, his⟩ : ∃ b, (getK s.data.toList rs).isSome = b := ⟨_, rfl⟩
  obtain ⟨N, hN⟩ : ∃ N, rs.length = N := ⟨_, rfl⟩
  rw [hP, hN] at hpl
  rw [his, hP, hN] at hlt
  rw [hP, his] at Hfind
  rw [his, hP] at hdel
  rw [hN] at hl
  have HP := Lib.hid hP
  have HS := Lib.hid his
  have HN := Lib.hid hN
  have H := Lib.hid h
  have Hdel := Lib.hid hdel
  have Hsl := Lib.hid h.slices
  have hrows := h.rows
  rw [hN] at hrows
  obtain ⟨A, c, hre, hNc, hcm, hh⟩ := own_sliceN hrows
  obtain ⟨c0, -, f0, -⟩ := h.cells
  rw [hre] at c0
  have Hh := Lib.hid hh
  have Htb := Lib.hid h.lt
  clear h hP his hN hrows hh hdel
  go_enter Tryz.func33, Tryz.ntmps33
  go_wp2_with fail
  refine Hfind.out.mono ?_
  rintro e w1 ⟨rfl, md, h1⟩
  have Hb1 : Hid (Below w.heap.size w w1) := Lib.hid (by rw [h1]; exact below_drews (Below.refl _ _) md)
  have Hz1 : Hid (w1.heap.size = w.heap.size) := Lib.hid (by rw [h1]; rfl)
  have c1 : w1.cell? ⟨tb, 0, none⟩ = some (.slice A N c) := by rw [h1]; exact c0
  have Hst1 : Hid (RSt w1 B tb rv xv rs F) := Lib.hid (H.out.below Hb1.out)
  have Hgr1 : Hid (w.grownBy w1 (some tb)) := Lib.hid (by rw [h1]; exact ⟨rfl, rfl, rfl, Nat.le_refl _, fun _ _ _ => rfl⟩)
  have p0 : (0 : Int) ≤ (P : Int) := by omega
  have p1 : (P : Int) ≤ (c : Int) := by omega
  clear h1 c0 f0
  cases is with
  | false =>
    go_wp2
    refine bodyPost_ret (results_none rfl _ _ _) rfl ?_
    refine ⟨rfl, rv, ?_, Hgr1.out⟩
    rw [Hdel.out]
    exact Hst1.out
  | true =>
    have hPN := hlt rfl
    obtain ⟨D, hD⟩ : ∃ D, (if c = P + 1 then A else A.map (·.add ((P + 1) * 2))) = D := ⟨_, rfl⟩
    have j0 : (0 : Int) ≤ (P : Int) + 1 := by omega
    have jc : (((P + 1 : Nat)) : Int) ≤ (N : Int) := by omega
    have jd : (((P + 1 : Nat)) : Int) ≤ (c : Int) := by omega
    have Hh1 := Lib.hid (Hh.out.belowOf Hb1.out (Nat.le_refl _))
    have Hsrc : Hid (Has w1 w.heap.size A (P * 2) (rowCells (rs.take P))) := Lib.hid (by
      rw [← rowCells_take rs P (by rw [HN.out]; exact hpl)]
      exact Has.take Hh1.out (by omega))
    go_wp2_with (first
      | (at_builtin; refine wpList_append_hasN rfl (.tmp 15) (.tmp 21) _ rfl 55 row_elem (by omega) Tryz.underlying33 rfl (World.ownsRow_nil w1 w1.heap.size 55 2) rfl Hsrc.out (rowCells_oneC _ (fun r hr => Hsl.out r (List.mem_of_mem_take hr))) (by simp only [maxLen]; omega) (by omega) (Nat.le_refl _) ?_; intro v1 x1 ho1 hg1 hz1; have B1 : Hid (Below w1.heap.size w1 x1) := Lib.hid (below_ownN (Below.refl _ _) (World.ownsRow_nil w1 w1.heap.size 55 2) hg1 (Nat.le_refl _)); have O1 : Hid (x1.ownsRow w.heap.size 55 2 v1 P (rowCells (rs.take P))) := Lib.hid (own_baseN (own_eqR ho1 (Nat.zero_add _) (List.nil_append _)) (by have := Hz1.out; omega)); have BB : Hid (Below w.heap.size w x1) := Lib.hid (Hb1.out.trans (B1.out.mono (by have := Hz1.out; omega))); have bx1 := H.out.box.below BB.out Htb.out; have c2 := bx1.cell 0; rw [hre] at c2; have Bx1 := Lib.hid bx1; obtain ⟨Aa, ca, rfl, -⟩ := own_sliceN O1.out; have Src : Hid (Has x1 w.heap.size D ((N - (P + 1)) * 2) (rowCells (rs.drop (P + 1)))) := Lib.hid (by rw [← hD]; exact rows_from (Hh.out.belowOf BB.out (Nat.le_refl _)) HN.out (by omega) hNc); clear ho1 hg1 hz1 bx1 c1)
      | (at_builtin; refine wpList_append_hasN rfl (.tmp 24) (.tmp 31) _ rfl 55 row_elem (by omega) Tryz.underlying33 rfl O1.out rfl Src.out (rowCells_oneC _ (fun r hr => Hsl.out r (List.mem_of_mem_drop hr))) (by simp only [maxLen]; omega) (by omega) BB.out.size ?_; intro v5 x5 ho5 hg5 hz5; have ne5 : some tb ≠ (Value.slice Aa P ca).ownBlock := (fun e => by have h1 := (O1.out.lt tb e.symm).1; have h2 := Htb.out; omega); have bx5 := Bx1.out.grown hg5 ne5; have c5 := bx5.cell 0; have f5 := bx5.frozen 0; obtain ⟨Ac, cc, rfl, -⟩ := own_sliceN ho5; have O5 := Lib.hid ho5; have G5 := Lib.hid hg5; clear ho5 hg5 hz5 bx5 ne5))
    go_end0
    refine ⟨rfl, _, refDel_end H.out BB.out (by rw [HP.out]; exact O1.out) HS.out (by rw [HP.out, HN.out]; exact O5.out) G5.out rfl⟩
end
end Go.Proofs.YtknfjajmnlpfjaaGreat

namespace Go.Proofs.YtknfjajmnlpfjaaGreat
open Go.RowKit
open Go.Lib (strCells compareBytes)

section
variable {w : World} {B tb : Nat} {rv xv : Value} {rs : Kv (Value × List TVal)} {F : List (Value × List Int)}
/-- the fields of the index of this number, if it is there -/
def idxF (id : Int) (FF : List (List Int)) : Option (List Int) := if 1 ≤ id then (match FF[(id - 1).toNat]? with | some fs => if fs = [] then none else some fs | none => none) else none
theorem xcell {n c k : Nat} {A : Option Addr} {x : Value × List Int} (h : w.ownsRow B 37 1 (.slice A n c) n (F.map (·.1))) (hk : k < n) (hx : F[k]? = some x) : ∃ a, A = some a ∧ w.cell? (a.add k) = some x.1 := by
  obtain ⟨a, e, -, hc⟩ := (Has.of_own h).all (by omega)
  exact ⟨a, e, hc k _ (by simp [hx])⟩
set_option maxRecDepth 100000 in
set_option maxHeartbeats 1600000 in
theorem refIndex_none (h : RSt w B tb rv xv rs F) (id : Int) (hid : idxF id (F.map (·.2)) = none) (hb : InI64 id) :
    Calls Tryz.prog 34 #[.pointer (some ⟨tb, 0, none⟩), .int .i64 id] w fun e w' => e = .returned (.tuple #[.agg #[.int .i64 0, .slice none 0 0], .bool false]) ∧ Below w.heap.size w w' := by
  obtain ⟨w0, hw0⟩ : ∃ w0, w.alloc (.cells #[.int .i64 0, .slice none 0 0] 74) = w0 := ⟨_, rfl⟩
  have hb0 : Below w.heap.size w w0 := hw0 ▸ below_alloc _ _
  have hbx : Box w0 w.heap.size 74 #[.int .i64 0, .slice none 0 0] := hw0 ▸ Box.made _ _ _
  have h0 := h.below hb0
  obtain ⟨-, c1, -, -⟩ := h0.cells
  have hx := h0.xrow
  obtain ⟨A, c, rfl, -⟩ := own_slice hx
  have p0 := hbx.cell 0
  have p1 := hbx.cell 1
  have g0 := hbx.frozen 0
  have g1 := hbx.frozen 1
  obtain ⟨W, hW⟩ : ∃ W, (w0.setCell ⟨w.heap.size, 0, none⟩ (.int .i64 0)).setCell ⟨w.heap.size, 1, none⟩ (.slice none 0 0) = W := ⟨_, rfl⟩
  have hbW : Box W w.heap.size 74 #[.int .i64 0, .slice none 0 0] := by
    have := (hbx.set_ 0 (.int .i64 0)).set_ 1 (.slice none 0 0)
    rw [hW] at this
    simpa using this
  have r0 := hbW.cell 0
  have r1 := hbW.cell 1
  have HbW : Hid (Below w.heap.size w W) := Lib.hid (hW ▸ (hb0.setCell (Nat.le_refl _) _).setCell (Nat.le_refl _) _)
  obtain ⟨n, hn⟩ : ∃ n, F.length = n := ⟨_, rfl⟩
  rw [hn] at c1 hx
  have Hx := Lib.hid hx
  have Hn := Lib.hid hn
  have hi63 := hb
  have hn6 : n ≤ 6 := by rw [← hn]; exact h.few
  have Hfl := Lib.hid h0.flds
  unfold InI64 at hi63
  clear h h0 hx hn hb0 hbx hbW
  by_cases hlow : id < 1
  · go_enter Tryz.func34, Tryz.ntmps34
    go_wp2
    refine bodyPost_ret (v := .tuple #[.agg #[.int .i64 0, .slice none 0 0], .bool false]) ?_ rfl ⟨rfl, HbW.out⟩
    simp [results, Tryz.results34, go_sem, r0, r1]
  · obtain ⟨k, rfl⟩ : ∃ k : Nat, id = (k : Int) + 1 := ⟨(id - 1).toNat, by omega⟩
    by_cases hkn : k < n
    · obtain ⟨x, hx⟩ : ∃ x, F[k]? = some x := ⟨_, List.getElem?_eq_getElem (by have := Hn.out; omega)⟩
      have hx0 : x.2 = [] := by
        unfold idxF at hid
        rw [if_pos (by omega), show ((k : Int) + 1 - 1).toNat = k by omega, List.getElem?_map, hx] at hid
        simp only [Option.map_some] at hid
        by_cases e : x.2 = []
        · exact e
        · rw [if_neg e] at hid
          cases hid
      obtain ⟨a, rfl, hc⟩ := xcell Hx.out hkn hx
      obtain ⟨Af, cf, ef, -⟩ := own_slice (Hfl.out x (List.mem_of_getElem? hx))
      rw [ef, hx0] at hc
      have hc' : w0.cell? (a.add k) = some (.slice Af 0 cf) := hc
      have k0 : (0 : Int) ≤ (k : Int) := by omega
      have k1 : (k : Int) < (n : Int) := by omega
      have k2 : ¬ (n : Int) < (k : Int) + 1 := by omega
      have ks : (k : Int) + 1 - 1 = (k : Int) := by omega
      clear hx hc ef hid
      go_enter Tryz.func34, Tryz.ntmps34
      go_wp2
      refine bodyPost_ret (v := .tuple #[.agg #[.int .i64 0, .slice none 0 0], .bool false]) ?_ rfl ⟨rfl, HbW.out⟩
      simp [results, Tryz.results34, go_sem, r0, r1]
    · have k2 : (n : Int) < (k : Int) + 1 := by omega
      clear hid
      go_enter Tryz.func34, Tryz.ntmps34
      go_wp2
      refine bodyPost_ret (v := .tuple #[.agg #[.int .i64 0, .slice none 0 0], .bool false]) ?_ rfl ⟨rfl, HbW.out⟩
      simp [results, Tryz.results34, go_sem, r0, r1]
set_option maxRecDepth 100000 in
set_option maxHeartbeats 1600000 in
theorem refIndex_some (h : RSt w B tb rv xv rs F) (k : Nat) (x : Value × List Int) (hx : F[k]? = some x) (h0 : x.2 ≠ []) :
    Calls Tryz.prog 34 #[.pointer (some ⟨tb, 0, none⟩), .int .i64 ((k : Int) + 1)] w fun e w' => e = .returned (.tuple #[.agg #[.int .i64 ((k : Int) + 1), x.1], .bool true]) ∧ Below w.heap.size w w' := by
  obtain ⟨w0, hw0⟩ : ∃ w0, w.alloc (.cells #[.int .i64 0, .slice none 0 0] 74) = w0 := ⟨_, rfl⟩
  have hb0 : Below w.heap.size w w0 := hw0 ▸ below_alloc _ _
  have hbx : Box w0 w.heap.size 74 #[.int .i64 0, .slice none 0 0] := hw0 ▸ Box.made _ _ _
  have h0' := h.below hb0
  obtain ⟨-, c1, -, -⟩ := h0'.cells
  have hxr := h0'.xrow
  obtain ⟨A, c, rfl, -⟩ := own_slice hxr
  have p0 := hbx.cell 0
  have p1 := hbx.cell 1
  have g0 := hbx.frozen 0
  have g1 := hbx.frozen 1
  obtain ⟨n, hn⟩ : ∃ n, F.length = n := ⟨_, rfl⟩
  have hkn : k < n := by rw [← hn]; exact (List.getElem?_eq_some_iff.1 hx).1
  rw [hn] at c1 hxr
  have hn6 : n ≤ 6 := by rw [← hn]; exact h.few
  obtain ⟨a, rfl, hc⟩ := xcell hxr hkn hx
  obtain ⟨Af, cf, ef, -⟩ := own_slice (h0'.flds x (List.mem_of_getElem? hx))
  obtain ⟨z, hz⟩ : ∃ z, x.2.length = z := ⟨_, rfl⟩
  have hz0 : 0 < z := by
    rw [← hz]
    cases e : x.2 with
    | nil => exact absurd e h0
    | cons y l => simp
  rw [hz] at ef
  rw [ef] at hc ⊢
  obtain ⟨W, hW⟩ : ∃ W, (w0.setCell ⟨w.heap.size, 0, none⟩ (.int .i64 ((k : Int) + 1))).setCell ⟨w.heap.size, 1, none⟩ (.slice Af z cf) = W := ⟨_, rfl⟩
  have hbW : Box W w.heap.size 74 #[.int .i64 ((k : Int) + 1), .slice Af z cf] := by
    have := (hbx.set_ 0 (.int .i64 ((k : Int) + 1))).set_ 1 (.slice Af z cf)
    rw [hW] at this
    simpa using this
  have r0 := hbW.cell 0
  have r1 := hbW.cell 1
  have HbW : Hid (Below w.heap.size w W) := Lib.hid (hW ▸ (hb0.setCell (Nat.le_refl _) _).setCell (Nat.le_refl _) _)
  have k0 : (0 : Int) ≤ (k : Int) := by omega
  have k1 : (k : Int) < (n : Int) := by omega
  have k2 : ¬ (n : Int) < (k : Int) + 1 := by omega
  have ks : (k : Int) + 1 - 1 = (k : Int) := by omega
  have kz : ((z : Int) == 0) = false := by simp; omega
  clear h h0' hxr hn hb0 hbx hbW hx ef hz h0
  go_enter Tryz.func34, Tryz.ntmps34
  go_wp2
  refine bodyPost_ret (v := .tuple #[.agg #[.int .i64 ((k : Int) + 1), .slice Af z cf], .bool true]) ?_ rfl ⟨rfl, HbW.out⟩
  simp [results, Tryz.results34, go_sem, r0, r1]
end
end Go.Proofs.YtknfjajmnlpfjaaGreat

namespace Go.Proofs.YtknfjajmnlpfjaaGreat
open Go.RowKit
open Go.Lib (strCells compareBytes)

theorem box12R {w : World} {g : Nat} {t : TypeId} {x0 x1 x2 x3 x4 x5 x6 x7 x8 x9 x10 x11 : Value} (h : Box w g t #[x0, x1, x2, x3, x4, x5, x6, x7, x8, x9, x10, x11]) : w.cell? ⟨g, 0, none⟩ = some x0 ∧ w.cell? ⟨g, 1, none⟩ = some x1 ∧ w.cell? ⟨g, 2, none⟩ = some x2 ∧ w.cell? ⟨g, 3, none⟩ = some x3 ∧ w.cell? ⟨g, 4, none⟩ = some x4 ∧ w.cell? ⟨g, 5, none⟩ = some x5 ∧ w.cell? ⟨g, 6, none⟩ = some x6 ∧ w.cell? ⟨g, 7, none⟩ = some x7 ∧ w.cell? ⟨g, 8, none⟩ = some x8 ∧ w.cell? ⟨g, 9, none⟩ = some x9 ∧ w.cell? ⟨g, 10, none⟩ = some x10 ∧ w.cell? ⟨g, 11, none⟩ = some x11 :=
  ⟨h.cell 0, h.cell 1, h.cell 2, h.cell 3, h.cell 4, h.cell 5, h.cell 6, h.cell 7, h.cell 8, h.cell 9, h.cell 10, h.cell 11⟩
/-- the document's store stands as these records and these fields say -/
def RAbs (w : World) (B tb : Nat) (M : Kv (List TVal)) (FF : List (List Int)) : Prop := ∃ rv xv rs F, RSt w B tb rv xv rs F ∧ mapK (·.2) rs = M ∧ F.map (·.2) = FF
section
variable {w : World} {B tb : Nat} {rv xv : Value} {rs : Kv (Value × List TVal)} {F : List (Value × List Int)}
theorem ownR {w W : World} {b g m size : Nat} {e : TypeId} {v : Value} {xs : List Value} {cs : Array Value} {x' y' z' u' v' : Value} (h : w.ownsRow b e size v m xs) (hb : Box w g 35 cs) (he : e ≠ 35) (hW : ((((w.setCell ⟨g, 0, none⟩ x').setCell ⟨g, 1, none⟩ y').setCell ⟨g, 2, none⟩ z').setCell ⟨g, 3, none⟩ u').setCell ⟨g, 4, none⟩ v' = W) : W.ownsRow b e size v m xs :=
  own_keep h fun i hi => heap5 (fun e' => by
    obtain ⟨cur, hc⟩ := own_type h hi
    unfold Box at hb
    rw [e', hb] at hc
    injection hc with hc; injection hc with _ hc; exact he hc.symm) hW
theorem row_cellR {N c i : Nat} {A : Option Addr} {x : List UInt8 × Value × List TVal} (h : w.ownsRow B 55 2 (.slice A N c) N (rowCells rs)) (hi : i < N) (hx : rs[i]? = some x) : ∃ a, A = some a ∧ w.cell? ⟨(a.add (i * 2)).block, (a.add (i * 2)).off + 1, none⟩ = some x.2.1 := by
  obtain ⟨a, e, -, hc⟩ := (Has.of_ownN h).all (by omega)
  refine ⟨a, e, ?_⟩
  rw [← addr_step a _ 1 (by omega)]
  exact hc _ _ (rowCells_at rs i x hx).2
/-- what stays when the document's store does something: all below B, and all blocks but the store's own kinds -/
structure RKept (B : Nat) (w w' : World) : Prop where
  below : Below B w w'
  keep : ∀ (i : Nat) (o : Obj), w.heap[i]? = some o → (∀ cur t fz, o = .cells cur t fz → t ≠ 47 ∧ t ≠ 37) → w'.heap[i]? = some o
theorem RKept.refl (B : Nat) (w : World) : RKept B w w := ⟨Below.refl _ _, fun _ _ h _ => h⟩
theorem RKept.trans {B : Nat} {w w1 w2 : World} (h : RKept B w w1) (k : RKept B w1 w2) : RKept B w w2 := ⟨h.below.trans k.below, fun i o hi ho => k.keep i o (h.keep i o hi ho) ho⟩
theorem RKept.all {B : Nat} {w w1 : World} (h : Below w.heap.size w w1) (hB : B ≤ w.heap.size) : RKept B w w1 := ⟨h.mono hB, fun i _ hi _ => (h.block i (Array.getElem?_eq_some_iff.1 hi).1).trans hi⟩
theorem RSt.old (h : RSt w B tb rv xv rs F) : B ≤ w.heap.size := by have := h.tB; have := h.lt; omega
theorem RKept.of {w' : World} (h : RSt w B tb rv xv rs F) (hg : w.grownBy w' (some tb)) : RKept B w w' :=
  ⟨⟨hg.os, hg.tape, hg.output, hg.size, fun i hi => hg.block i (by have := h.old; omega) fun e => by injection e with e; have := h.tB; omega⟩, fun i o hi ho => (hg.block i (Array.getElem?_eq_some_iff.1 hi).1 fun e => by
    injection e with e
    have hb := h.box
    unfold Box at hb
    rw [e, hb] at hi
    injection hi with hi
    exact absurd rfl (ho _ _ _ hi.symm).1).trans hi⟩
/-- what its Do answers and leaves -/
def RefPost (B tb : Nat) (M : Kv (List TVal)) (FF : List (List Int)) (a : Ans) (w : World) (e : Ending) (w' : World) : Prop := ∃ u, e = .returned u ∧ AnsIs w' B u a ∧ RAbs w' B tb M FF ∧ RKept B w w'
/-- the end of every kind -/
theorem refDo_end {w1 w5 W3 : World} {rv' xv' rvv svv : Value} {rs' : Kv (Value × List TVal)} {F' : List (Value × List Int)} {a : Ans} {cs : Array Value} {g : Nat} (hb : Below w.heap.size w w1) (hg : w.heap.size ≤ g) (hBw : B ≤ w.heap.size) (hg5 : RKept B w1 w5) (hR : RSt w5 B tb rv' xv' rs' F') (hbx : Box w5 g 35 cs)
    (h1 : w5.ownsRow B 53 3 rvv a.rc.length (valCells a.rc)) (h2 : RowsIs w5 B svv a.rows) (hW : ((((w5.setCell ⟨g, 0, none⟩ (.int .i64 a.code)).setCell ⟨g, 1, none⟩ (.bool a.there)).setCell ⟨g, 2, none⟩ rvv).setCell ⟨g, 3, none⟩ svv).setCell ⟨g, 4, none⟩ (.int .i64 a.num) = W3) :
    AnsIs W3 B (replyV a.code a.there rvv svv a.num) a ∧ RAbs W3 B tb (mapK (·.2) rs') (F'.map (·.2)) ∧ RKept B w W3 := by
  refine ⟨⟨rvv, svv, rfl, ownR h1 hbx (by decide) hW, ?_⟩, ⟨rv', xv', rs', F', hR.frame fun i cur t hi ht _ => heap5 (fun e => ?_) hW, rfl, rfl⟩, ?_⟩
  · obtain ⟨rs, ⟨g1, g2⟩, e⟩ := h2
    exact ⟨rs, ⟨ownR g1 hbx (by decide) hW, fun r hr => ownR (g2 r hr) hbx (by decide) hW⟩, e⟩
  · unfold Box at hbx
    rw [e, hbx] at hi
    injection hi with hi; injection hi with _ hi _
    subst hi
    rcases ht with h | h | h | h | h <;> exact absurd h (by decide)
  · have k1 := (RKept.all hb hBw).trans hg5
    exact ⟨below5B k1.below (Nat.le_trans hBw hg) hW, fun i o hi ho => (heap5 (by have := (Array.getElem?_eq_some_iff.1 hi).1; omega) hW).trans (k1.keep i o hi ho)⟩
set_option maxRecDepth 100000 in
set_option maxHeartbeats 3200000 in
theorem ref_k3 (h : RSt w B tb rv xv rs F) (C : Nat) (hC : C ≤ w.heap.size) (key to : ByteArray) (rc old low high : List TVal) (id lim sp nd : Int) (fs : List Int) (Ar Ao Af Al Ah : Option Addr) (nr cr no co nf cf nl cl nh ch : Nat)
    (ho : OpIs w C (.agg #[.int .i64 3, .string key, .string to, .slice Ar nr cr, .slice Ao no co, .int .i64 id, .slice Af nf cf, .slice Al nl cl, .slice Ah nh ch, .int .i64 lim, .int .i64 sp, .int .i64 nd]) ⟨3, key, to, rc, old, id, fs, low, high, lim, sp, nd⟩) (hz : checkT ⟨3, key, to, rc, old, id, fs, low, high, lim, sp, nd⟩ = 0) (hl : rs.length ≤ 1000) :
    Calls Tryz.prog 10 #[.pointer (some ⟨tb, 0, none⟩), .agg #[.int .i64 3, .string key, .string to, .slice Ar nr cr, .slice Ao no co, .int .i64 id, .slice Af nf cf, .slice Al nl cl, .slice Ah nh ch, .int .i64 lim, .int .i64 sp, .int .i64 nd]] w (RefPost B tb (mapK (·.2) rs) (F.map (·.2)) ⟨0, (getK key.data.toList (mapK (·.2) rs)).isSome, (getK key.data.toList (mapK (·.2) rs)).getD [], [], 0⟩ w) := by
  obtain ⟨w00, hw00⟩ : ∃ w00, w.alloc (.cells #[.int .i64 3, .string key, .string to, .slice Ar nr cr, .slice Ao no co, .int .i64 id, .slice Af nf cf, .slice Al nl cl, .slice Ah nh ch, .int .i64 lim, .int .i64 sp, .int .i64 nd] 39) = w00 := ⟨_, rfl⟩
  have hb00 : Below w.heap.size w w00 := hw00 ▸ below_alloc _ _
  have hbo0 : Box w00 w.heap.size 39 #[.int .i64 3, .string key, .string to, .slice Ar nr cr, .slice Ao no co, .int .i64 id, .slice Af nf cf, .slice Al nl cl, .slice Ah nh ch, .int .i64 lim, .int .i64 sp, .int .i64 nd] := hw00 ▸ Box.made _ _ _
  have hs00 : w00.heap.size = w.heap.size + 1 := by rw [← hw00]; simp
  obtain ⟨w0, hw0⟩ : ∃ w0, w00.alloc (.cells #[.int .i64 0, .bool false, .slice none 0 0, .slice none 0 0, .int .i64 0] 35) = w0 := ⟨_, rfl⟩
  have hb0 : Below w.heap.size w w0 := Below.then hb00 (hw0 ▸ below_alloc _ _)
  have hbx : Box w0 (w.heap.size + 1) 35 #[.int .i64 0, .bool false, .slice none 0 0, .slice none 0 0, .int .i64 0] := hw0 ▸ made_at hs00 _ _
  have hbo : Box w0 w.heap.size 39 #[.int .i64 3, .string key, .string to, .slice Ar nr cr, .slice Ao no co, .int .i64 id, .slice Af nf cf, .slice Al nl cl, .slice Ah nh ch, .int .i64 lim, .int .i64 sp, .int .i64 nd] := hw0 ▸ hbo0.alloc _
  have hsz : w0.heap.size = w.heap.size + 1 + 1 := by rw [← hw0]; simp [hs00]
  have hchk := refCheck_any _ _ C w0 (Nat.le_trans hC hb0.size) (ho.belowOf hb0 hC)
  have e0 := hbo.cell 0; have e1 := hbo.cell 1; have e2 := hbo.cell 2; have e3 := hbo.cell 3; have e4 := hbo.cell 4; have e5 := hbo.cell 5
  have e6 := hbo.cell 6; have e7 := hbo.cell 7; have e8 := hbo.cell 8; have e9 := hbo.cell 9; have e10 := hbo.cell 10; have e11 := hbo.cell 11
  have H := Lib.hid h
  have Hbx := Lib.hid hbx
  have Hbo := Lib.hid hbo
  have Hb0 := Lib.hid hb0
  have Hsz := Lib.hid hsz
  have Hchk := Lib.hid hchk
  clear hbo hbo0 hb00 hb0 hbx hsz hchk h ho
  rw [hz] at Hchk
  go_enter Tryz.func10, Tryz.ntmps10
  go_wp2_with fail
  refine Hchk.out.mono ?_
  rintro e w1 ⟨rfl, hb1⟩
  have hbo1 := Hbo.out.below hb1 Hbo.out.lt
  obtain ⟨a0, a1, a2, a3, a4, a5, a6, a7, a8, a9, a10, a11⟩ := box12R hbo1
  have Hbo1 := Lib.hid hbo1
  have Hb1 := Lib.hid hb1
  have Hbw := Lib.hid (Below.trans Hb0.out (hb1.mono (by rw [Hsz.out]; omega)))
  have Hbx1 := Lib.hid (Hbx.out.below hb1 Hbx.out.lt)
  have Hlt1 : Hid (w.heap.size + 1 < w1.heap.size) := Lib.hid (by have := hb1.size; have := Hsz.out; omega)
  clear hbo1 hb1
  have Hfind := Lib.hid (refFind_any (H.out.below Hbw.out) key hl)
  have hrise := H.out.rise
  obtain ⟨P, hP⟩ : ∃ P, posK key.data.toList rs = P := ⟨_, rfl⟩
  obtain ⟨is, his⟩ : ∃ b, (getK key.data.toList rs).isSome = b := ⟨_, rfl⟩
  have hget := getK_pos key.data.toList rs hrise
  rw [hP, his] at Hfind
  rw [hP] at hget
  have HP := Lib.hid hP
  have HS := Lib.hid his
  have Hget := Lib.hid hget
  have Hl := Lib.hid hl
  have His : Hid (is = (getK key.data.toList (mapK (·.2) rs)).isSome) := Lib.hid (by rw [← his]; exact (isSome_mapK _ _).symm)
  clear hP his hget hrise hl
  go_wp2_with fail
  refine Hfind.out.mono ?_
  rintro e w2 ⟨rfl, m2, h2⟩
  have hbo2 := Hbo1.out.below (below_drews (Below.refl w1.heap.size w1) m2) Hbo1.out.lt
  have hbx2 := Hbx1.out.below (below_drews (Below.refl w1.heap.size w1) m2) Hbx1.out.lt
  rw [← h2] at hbo2 hbx2
  have Hb2 : Hid (Below w.heap.size w w2) := Lib.hid (by rw [h2]; exact below_drews Hbw.out m2)
  have Hlt2 : Hid (w.heap.size + 1 < w2.heap.size) := Lib.hid (by rw [h2]; exact Hlt1.out)
  have HR2 : Hid (RSt w2 B tb rv xv rs F) := Lib.hid (H.out.below Hb2.out)
  have Hbx2 := Lib.hid hbx2
  have Hbo2 := Lib.hid hbo2
  have Htb := Lib.hid H.out.lt
  clear h2 a0 a1 a2 a3 a4 a5 a6 a7 a8 a9 a10 a11
  obtain ⟨a0, a1, a2, a3, a4, a5, a6, a7, a8, a9, a10, a11⟩ := box12R hbo2
  obtain ⟨tc0, tc1, -, -⟩ := HR2.out.cells
  have hrw := HR2.out.rows
  obtain ⟨Aw, N, cw, hre, hwl⟩ : ∃ Aw N cw, rv = .slice Aw N cw ∧ rs.length = N := by
    obtain ⟨A', c', e, -⟩ := own_sliceN hrw
    exact ⟨A', _, c', e, rfl⟩
  rw [hre] at tc0
  clear hbo2 hbx2
  cases is with
  | true =>
    obtain ⟨x, hx, hxk⟩ : ∃ x, rs[P]? = some x ∧ getK key.data.toList rs = some x.2 := by
      have h1 := Hget.out
      have h2 := HS.out
      rw [h1] at h2
      cases hp : rs[P]? with
      | none => rw [hp] at h2; cases h2
      | some x =>
        rw [hp] at h1 h2
        refine ⟨x, rfl, ?_⟩
        simp only [Option.bind_some] at h1 h2
        by_cases e : x.1 = key.data.toList
        · rw [if_pos e] at h1
          exact h1
        · rw [if_neg e] at h2
          cases h2
    have hPN : P < N := by rw [← hwl]; exact (List.getElem?_eq_some_iff.1 hx).1
    have hrw' := hrw
    rw [hre, hwl] at hrw'
    obtain ⟨aw, rfl, hcw⟩ := row_cellR hrw' hPN hx
    have hxo := HR2.out.recs x (List.mem_of_getElem? hx)
    obtain ⟨Ax, cx, ex, -⟩ := own_sliceN hxo
    obtain ⟨zx, hzx⟩ : ∃ z, x.2.2.length = z := ⟨_, rfl⟩
    rw [hzx] at ex
    rw [ex] at hcw
    have Hxo : Hid (w2.ownsRow B 53 3 (.slice Ax zx cx) x.2.2.length (valCells x.2.2)) := Lib.hid (by rw [← ex]; exact hxo)
    have Hzx := Lib.hid hzx
    have Hxk : Hid ((getK key.data.toList (mapK (·.2) rs)).getD [] = x.2.2) := Lib.hid (by rw [mapK_get, hxk]; rfl)
    have p0 : (0 : Int) ≤ (P : Int) := by omega
    have p1 : (P : Int) < (N : Int) := by omega
    clear hx hxk hxo ex hrw' hzx
    have hbx5 := Hbx2.out
    obtain ⟨r0, r1, r2, r3, r4, k0, k1, k2, k3, k4⟩ := box5 hbx5
    obtain ⟨W3, hW3⟩ : ∃ W3, ((((w2.setCell ⟨w.heap.size + 1, 0, none⟩ (.int .i64 0)).setCell ⟨w.heap.size + 1, 1, none⟩ (.bool true)).setCell ⟨w.heap.size + 1, 2, none⟩ (.slice Ax zx cx)).setCell ⟨w.heap.size + 1, 3, none⟩ (.slice none 0 0)).setCell ⟨w.heap.size + 1, 4, none⟩ (.int .i64 0) = W3 := ⟨_, rfl⟩
    obtain ⟨p0, p1, p2, p3, p4, -⟩ := box5 (box5_store hbx5 hW3)
    have hend := refDo_end (a := ⟨0, true, x.2.2, [], 0⟩) Hb2.out (Nat.le_succ _) H.out.old (RKept.refl _ _) HR2.out hbx5 Hxo.out (RowsIs.nil _ _) hW3
    have Hend : Hid (AnsIs W3 B (replyV 0 true (.slice Ax zx cx) (.slice none 0 0) 0) ⟨0, (getK key.data.toList (mapK (·.2) rs)).isSome, (getK key.data.toList (mapK (·.2) rs)).getD [], [], 0⟩ ∧ RAbs W3 B tb (mapK (·.2) rs) (F.map (·.2)) ∧ RKept B w W3) := Lib.hid (by rw [← His.out, Hxk.out]; exact hend)
    clear hend
    clear hbx5
    go_wp2
    refine bodyPost_ret (v := replyV 0 true (.slice Ax zx cx) (.slice none 0 0) 0) ?_ rfl ⟨_, rfl, Hend.out⟩
    simp [results, Tryz.results10, go_sem, replyV, p0, p1, p2, p3, p4]
  | false =>
    have Hxk : Hid ((getK key.data.toList (mapK (·.2) rs)).getD [] = []) := Lib.hid (by
      have h1 := His.out
      cases e : getK key.data.toList (mapK (·.2) rs) with
      | none => rfl
      | some x => rw [e] at h1; cases h1)
    have hbx5 := Hbx2.out
    obtain ⟨r0, r1, r2, r3, r4, k0, k1, k2, k3, k4⟩ := box5 hbx5
    obtain ⟨W3, hW3⟩ : ∃ W3, ((((w2.setCell ⟨w.heap.size + 1, 0, none⟩ (.int .i64 0)).setCell ⟨w.heap.size + 1, 1, none⟩ (.bool false)).setCell ⟨w.heap.size + 1, 2, none⟩ (.slice none 0 0)).setCell ⟨w.heap.size + 1, 3, none⟩ (.slice none 0 0)).setCell ⟨w.heap.size + 1, 4, none⟩ (.int .i64 0) = W3 := ⟨_, rfl⟩
    obtain ⟨p0, p1, p2, p3, p4, -⟩ := box5 (box5_store hbx5 hW3)
    have hend := refDo_end (a := ⟨0, false, [], [], 0⟩) Hb2.out (Nat.le_succ _) H.out.old (RKept.refl _ _) HR2.out hbx5 (World.ownsRow_nil _ _ _ _) (RowsIs.nil _ _) hW3
    have Hend : Hid (AnsIs W3 B (replyV 0 false (.slice none 0 0) (.slice none 0 0) 0) ⟨0, (getK key.data.toList (mapK (·.2) rs)).isSome, (getK key.data.toList (mapK (·.2) rs)).getD [], [], 0⟩ ∧ RAbs W3 B tb (mapK (·.2) rs) (F.map (·.2)) ∧ RKept B w W3) := Lib.hid (by rw [← His.out, Hxk.out]; exact hend)
    clear hend
    clear hbx5
    go_wp2
    refine bodyPost_ret (v := replyV 0 false (.slice none 0 0) (.slice none 0 0) 0) ?_ rfl ⟨_, rfl, Hend.out⟩
    simp [results, Tryz.results10, go_sem, replyV, p0, p1, p2, p3, p4]
set_option maxRecDepth 100000 in
set_option maxHeartbeats 3200000 in
theorem ref_k1 (h : RSt w B tb rv xv rs F) (C : Nat) (hC : C ≤ w.heap.size) (key to : ByteArray) (rc old low high : List TVal) (id lim sp nd : Int) (fs : List Int) (Ar Ao Af Al Ah : Option Addr) (nr cr no co nf cf nl cl nh ch : Nat)
    (ho : OpIs w C (.agg #[.int .i64 1, .string key, .string to, .slice Ar nr cr, .slice Ao no co, .int .i64 id, .slice Af nf cf, .slice Al nl cl, .slice Ah nh ch, .int .i64 lim, .int .i64 sp, .int .i64 nd]) ⟨1, key, to, rc, old, id, fs, low, high, lim, sp, nd⟩) (hz : checkT ⟨1, key, to, rc, old, id, fs, low, high, lim, sp, nd⟩ = 0) (hl : rs.length ≤ 1000) (hrc : HasVals w C Ar nr rc) (hgood : GoodRec rc) (hkey : keyOk key.data.toList = true) :
    Calls Tryz.prog 10 #[.pointer (some ⟨tb, 0, none⟩), .agg #[.int .i64 1, .string key, .string to, .slice Ar nr cr, .slice Ao no co, .int .i64 id, .slice Af nf cf, .slice Al nl cl, .slice Ah nh ch, .int .i64 lim, .int .i64 sp, .int .i64 nd]] w (RefPost B tb (putK key.data.toList rc (mapK (·.2) rs)) (F.map (·.2)) ⟨0, (getK key.data.toList (mapK (·.2) rs)).isSome, [], [], 0⟩ w) := by
  obtain ⟨w00, hw00⟩ : ∃ w00, w.alloc (.cells #[.int .i64 1, .string key, .string to, .slice Ar nr cr, .slice Ao no co, .int .i64 id, .slice Af nf cf, .slice Al nl cl, .slice Ah nh ch, .int .i64 lim, .int .i64 sp, .int .i64 nd] 39) = w00 := ⟨_, rfl⟩
  have hb00 : Below w.heap.size w w00 := hw00 ▸ below_alloc _ _
  have hbo0 : Box w00 w.heap.size 39 #[.int .i64 1, .string key, .string to, .slice Ar nr cr, .slice Ao no co, .int .i64 id, .slice Af nf cf, .slice Al nl cl, .slice Ah nh ch, .int .i64 lim, .int .i64 sp, .int .i64 nd] := hw00 ▸ Box.made _ _ _
  have hs00 : w00.heap.size = w.heap.size + 1 := by rw [← hw00]; simp
  obtain ⟨w0, hw0⟩ : ∃ w0, w00.alloc (.cells #[.int .i64 0, .bool false, .slice none 0 0, .slice none 0 0, .int .i64 0] 35) = w0 := ⟨_, rfl⟩
  have hb0 : Below w.heap.size w w0 := Below.then hb00 (hw0 ▸ below_alloc _ _)
  have hbx : Box w0 (w.heap.size + 1) 35 #[.int .i64 0, .bool false, .slice none 0 0, .slice none 0 0, .int .i64 0] := hw0 ▸ made_at hs00 _ _
  have hbo : Box w0 w.heap.size 39 #[.int .i64 1, .string key, .string to, .slice Ar nr cr, .slice Ao no co, .int .i64 id, .slice Af nf cf, .slice Al nl cl, .slice Ah nh ch, .int .i64 lim, .int .i64 sp, .int .i64 nd] := hw0 ▸ hbo0.alloc _
  have hsz : w0.heap.size = w.heap.size + 1 + 1 := by rw [← hw0]; simp [hs00]
  have hchk := refCheck_any _ _ C w0 (Nat.le_trans hC hb0.size) (ho.belowOf hb0 hC)
  have e0 := hbo.cell 0; have e1 := hbo.cell 1; have e2 := hbo.cell 2; have e3 := hbo.cell 3; have e4 := hbo.cell 4; have e5 := hbo.cell 5
  have e6 := hbo.cell 6; have e7 := hbo.cell 7; have e8 := hbo.cell 8; have e9 := hbo.cell 9; have e10 := hbo.cell 10; have e11 := hbo.cell 11
  have H := Lib.hid h
  have Hbx := Lib.hid hbx
  have Hbo := Lib.hid hbo
  have Hb0 := Lib.hid hb0
  have Hsz := Lib.hid hsz
  have Hchk := Lib.hid hchk
  clear hbo hbo0 hb00 hb0 hbx hsz hchk h ho
  rw [hz] at Hchk
  go_enter Tryz.func10, Tryz.ntmps10
  go_wp2_with fail
  refine Hchk.out.mono ?_
  rintro e w1 ⟨rfl, hb1⟩
  have hbo1 := Hbo.out.below hb1 Hbo.out.lt
  obtain ⟨a0, a1, a2, a3, a4, a5, a6, a7, a8, a9, a10, a11⟩ := box12R hbo1
  have Hbo1 := Lib.hid hbo1
  have Hb1 := Lib.hid hb1
  have Hbw := Lib.hid (Below.trans Hb0.out (hb1.mono (by rw [Hsz.out]; omega)))
  have Hbx1 := Lib.hid (Hbx.out.below hb1 Hbx.out.lt)
  have Hlt1 : Hid (w.heap.size + 1 < w1.heap.size) := Lib.hid (by have := hb1.size; have := Hsz.out; omega)
  clear hbo1 hb1
  have Hfind := Lib.hid (refFind_any (H.out.below Hbw.out) key hl)
  have hrise := H.out.rise
  obtain ⟨P, hP⟩ : ∃ P, posK key.data.toList rs = P := ⟨_, rfl⟩
  obtain ⟨is, his⟩ : ∃ b, (getK key.data.toList rs).isSome = b := ⟨_, rfl⟩
  have hget := getK_pos key.data.toList rs hrise
  rw [hP, his] at Hfind
  rw [hP] at hget
  have HP := Lib.hid hP
  have HS := Lib.hid his
  have Hget := Lib.hid hget
  have Hl := Lib.hid hl
  have His : Hid (is = (getK key.data.toList (mapK (·.2) rs)).isSome) := Lib.hid (by rw [← his]; exact (isSome_mapK _ _).symm)
  clear hP his hget hrise hl
  go_wp2_with fail
  refine Hfind.out.mono ?_
  rintro e w2 ⟨rfl, m2, h2⟩
  have hbo2 := Hbo1.out.below (below_drews (Below.refl w1.heap.size w1) m2) Hbo1.out.lt
  have hbx2 := Hbx1.out.below (below_drews (Below.refl w1.heap.size w1) m2) Hbx1.out.lt
  rw [← h2] at hbo2 hbx2
  have Hb2 : Hid (Below w.heap.size w w2) := Lib.hid (by rw [h2]; exact below_drews Hbw.out m2)
  have Hlt2 : Hid (w.heap.size + 1 < w2.heap.size) := Lib.hid (by rw [h2]; exact Hlt1.out)
  have HR2 : Hid (RSt w2 B tb rv xv rs F) := Lib.hid (H.out.below Hb2.out)
  have Hbx2 := Lib.hid hbx2
  have Hbo2 := Lib.hid hbo2
  have Htb := Lib.hid H.out.lt
  clear h2 a0 a1 a2 a3 a4 a5 a6 a7 a8 a9 a10 a11
  obtain ⟨a0, a1, a2, a3, a4, a5, a6, a7, a8, a9, a10, a11⟩ := box12R hbo2
  obtain ⟨tc0, tc1, -, -⟩ := HR2.out.cells
  have hrw := HR2.out.rows
  obtain ⟨Aw, N, cw, hre, hwl⟩ : ∃ Aw N cw, rv = .slice Aw N cw ∧ rs.length = N := by
    obtain ⟨A', c', e, -⟩ := own_sliceN hrw
    exact ⟨A', _, c', e, rfl⟩
  rw [hre] at tc0
  clear hbo2 hbx2
  cases is with
  | true =>
    obtain ⟨x, hx, hxk⟩ : ∃ x, rs[P]? = some x ∧ getK key.data.toList rs = some x.2 := by
      have h1 := Hget.out
      have h2 := HS.out
      rw [h1] at h2
      cases hp : rs[P]? with
      | none => rw [hp] at h2; cases h2
      | some x =>
        rw [hp] at h1 h2
        refine ⟨x, rfl, ?_⟩
        simp only [Option.bind_some] at h1 h2
        by_cases e : x.1 = key.data.toList
        · rw [if_pos e] at h1
          exact h1
        · rw [if_neg e] at h2
          cases h2
    have hPN : P < N := by rw [← hwl]; exact (List.getElem?_eq_some_iff.1 hx).1
    have hrw' := hrw
    rw [hre, hwl] at hrw'
    obtain ⟨aw, rfl, hcw⟩ := row_cellR hrw' hPN hx
    have hxo := HR2.out.recs x (List.mem_of_getElem? hx)
    obtain ⟨Ax, cx, ex, -⟩ := own_sliceN hxo
    obtain ⟨zx, hzx⟩ : ∃ z, x.2.2.length = z := ⟨_, rfl⟩
    rw [hzx] at ex
    rw [ex] at hcw
    have Hxo : Hid (w2.ownsRow B 53 3 (.slice Ax zx cx) x.2.2.length (valCells x.2.2)) := Lib.hid (by rw [← ex]; exact hxo)
    have Hzx := Lib.hid hzx
    have Hxk : Hid ((getK key.data.toList (mapK (·.2) rs)).getD [] = x.2.2) := Lib.hid (by rw [mapK_get, hxk]; rfl)
    have p0 : (0 : Int) ≤ (P : Int) := by omega
    have p1 : (P : Int) < (N : Int) := by omega
    clear hx hxk hxo ex hrw' hzx
    have Hcall := Lib.hid (refPut_any HR2.out key Ar nr cr C rc (hrc.belowOf Hb2.out hC) (Nat.le_trans hC Hb2.out.size) hgood hkey Hl.out)
    go_wp2_with fail
    refine Hcall.out.mono ?_
    rintro e w5 ⟨rfl, rv5, vo5, hR5, hg5⟩
    have hbx5 := Hbx2.out.grown hg5 (fun e => by injection e with e; have := Htb.out; omega)
    have hbo5 := Hbo2.out.grown hg5 (fun e => by injection e with e; have := Htb.out; omega)
    obtain ⟨r0, r1, r2, r3, r4, k0, k1, k2, k3, k4⟩ := box5 hbx5
    obtain ⟨W3, hW3⟩ : ∃ W3, ((((w5.setCell ⟨w.heap.size + 1, 0, none⟩ (.int .i64 0)).setCell ⟨w.heap.size + 1, 1, none⟩ (.bool true)).setCell ⟨w.heap.size + 1, 2, none⟩ (.slice none 0 0)).setCell ⟨w.heap.size + 1, 3, none⟩ (.slice none 0 0)).setCell ⟨w.heap.size + 1, 4, none⟩ (.int .i64 0) = W3 := ⟨_, rfl⟩
    obtain ⟨p0, p1, p2, p3, p4, -⟩ := box5 (box5_store hbx5 hW3)
    have hend := refDo_end (a := ⟨0, true, [], [], 0⟩) Hb2.out (Nat.le_succ _) H.out.old (RKept.of HR2.out hg5) hR5 hbx5 (World.ownsRow_nil _ _ _ _) (RowsIs.nil _ _) hW3
    rw [mapK_put] at hend
    have Hend : Hid (AnsIs W3 B (replyV 0 true (.slice none 0 0) (.slice none 0 0) 0) ⟨0, (getK key.data.toList (mapK (·.2) rs)).isSome, [], [], 0⟩ ∧ RAbs W3 B tb (putK key.data.toList rc (mapK (·.2) rs)) (F.map (·.2)) ∧ RKept B w W3) := Lib.hid (by rw [← His.out]; exact hend)
    clear hend hR5 hg5 hbo5
    clear hbx5
    go_wp2
    refine bodyPost_ret (v := replyV 0 true (.slice none 0 0) (.slice none 0 0) 0) ?_ rfl ⟨_, rfl, Hend.out⟩
    simp [results, Tryz.results10, go_sem, replyV, p0, p1, p2, p3, p4]
  | false =>
    have Hxk : Hid ((getK key.data.toList (mapK (·.2) rs)).getD [] = []) := Lib.hid (by
      have h1 := His.out
      cases e : getK key.data.toList (mapK (·.2) rs) with
      | none => rfl
      | some x => rw [e] at h1; cases h1)
    have Hcall := Lib.hid (refPut_any HR2.out key Ar nr cr C rc (hrc.belowOf Hb2.out hC) (Nat.le_trans hC Hb2.out.size) hgood hkey Hl.out)
    go_wp2_with fail
    refine Hcall.out.mono ?_
    rintro e w5 ⟨rfl, rv5, vo5, hR5, hg5⟩
    have hbx5 := Hbx2.out.grown hg5 (fun e => by injection e with e; have := Htb.out; omega)
    have hbo5 := Hbo2.out.grown hg5 (fun e => by injection e with e; have := Htb.out; omega)
    obtain ⟨r0, r1, r2, r3, r4, k0, k1, k2, k3, k4⟩ := box5 hbx5
    obtain ⟨W3, hW3⟩ : ∃ W3, ((((w5.setCell ⟨w.heap.size + 1, 0, none⟩ (.int .i64 0)).setCell ⟨w.heap.size + 1, 1, none⟩ (.bool false)).setCell ⟨w.heap.size + 1, 2, none⟩ (.slice none 0 0)).setCell ⟨w.heap.size + 1, 3, none⟩ (.slice none 0 0)).setCell ⟨w.heap.size + 1, 4, none⟩ (.int .i64 0) = W3 := ⟨_, rfl⟩
    obtain ⟨p0, p1, p2, p3, p4, -⟩ := box5 (box5_store hbx5 hW3)
    have hend := refDo_end (a := ⟨0, false, [], [], 0⟩) Hb2.out (Nat.le_succ _) H.out.old (RKept.of HR2.out hg5) hR5 hbx5 (World.ownsRow_nil _ _ _ _) (RowsIs.nil _ _) hW3
    rw [mapK_put] at hend
    have Hend : Hid (AnsIs W3 B (replyV 0 false (.slice none 0 0) (.slice none 0 0) 0) ⟨0, (getK key.data.toList (mapK (·.2) rs)).isSome, [], [], 0⟩ ∧ RAbs W3 B tb (putK key.data.toList rc (mapK (·.2) rs)) (F.map (·.2)) ∧ RKept B w W3) := Lib.hid (by rw [← His.out]; exact hend)
    clear hend hR5 hg5 hbo5
    clear hbx5
    go_wp2
    refine bodyPost_ret (v := replyV 0 false (.slice none 0 0) (.slice none 0 0) 0) ?_ rfl ⟨_, rfl, Hend.out⟩
    simp [results, Tryz.results10, go_sem, replyV, p0, p1, p2, p3, p4]
set_option maxRecDepth 100000 in
set_option maxHeartbeats 3200000 in
theorem ref_k2 (h : RSt w B tb rv xv rs F) (C : Nat) (hC : C ≤ w.heap.size) (key to : ByteArray) (rc old low high : List TVal) (id lim sp nd : Int) (fs : List Int) (Ar Ao Af Al Ah : Option Addr) (nr cr no co nf cf nl cl nh ch : Nat)
    (ho : OpIs w C (.agg #[.int .i64 2, .string key, .string to, .slice Ar nr cr, .slice Ao no co, .int .i64 id, .slice Af nf cf, .slice Al nl cl, .slice Ah nh ch, .int .i64 lim, .int .i64 sp, .int .i64 nd]) ⟨2, key, to, rc, old, id, fs, low, high, lim, sp, nd⟩) (hz : checkT ⟨2, key, to, rc, old, id, fs, low, high, lim, sp, nd⟩ = 0) (hl : rs.length ≤ 1000) :
    Calls Tryz.prog 10 #[.pointer (some ⟨tb, 0, none⟩), .agg #[.int .i64 2, .string key, .string to, .slice Ar nr cr, .slice Ao no co, .int .i64 id, .slice Af nf cf, .slice Al nl cl, .slice Ah nh ch, .int .i64 lim, .int .i64 sp, .int .i64 nd]] w (RefPost B tb (delK key.data.toList (mapK (·.2) rs)) (F.map (·.2)) ⟨0, (getK key.data.toList (mapK (·.2) rs)).isSome, [], [], 0⟩ w) := by
  obtain ⟨w00, hw00⟩ : ∃ w00, w.alloc (.cells #[.int .i64 2, .string key, .string to, .slice Ar nr cr, .slice Ao no co, .int .i64 id, .slice Af nf cf, .slice Al nl cl, .slice Ah nh ch, .int .i64 lim, .int .i64 sp, .int .i64 nd] 39) = w00 := ⟨_, rfl⟩
  have hb00 : Below w.heap.size w w00 := hw00 ▸ below_alloc _ _
  have hbo0 : Box w00 w.heap.size 39 #[.int .i64 2, .string key, .string to, .slice Ar nr cr, .slice Ao no co, .int .i64 id, .slice Af nf cf, .slice Al nl cl, .slice Ah nh ch, .int .i64 lim, .int .i64 sp, .int .i64 nd] := hw00 ▸ Box.made _ _ _
  have hs00 : w00.heap.size = w.heap.size + 1 := by rw [← hw00]; simp
  obtain ⟨w0, hw0⟩ : ∃ w0, w00.alloc (.cells #[.int .i64 0, .bool false, .slice none 0 0, .slice none 0 0, .int .i64 0] 35) = w0 := ⟨_, rfl⟩
  have hb0 : Below w.heap.size w w0 := Below.then hb00 (hw0 ▸ below_alloc _ _)
  have hbx : Box w0 (w.heap.size + 1) 35 #[.int .i64 0, .bool false, .slice none 0 0, .slice none 0 0, .int .i64 0] := hw0 ▸ made_at hs00 _ _
  have hbo : Box w0 w.heap.size 39 #[.int .i64 2, .string key, .string to, .slice Ar nr cr, .slice Ao no co, .int .i64 id, .slice Af nf cf, .slice Al nl cl, .slice Ah nh ch, .int .i64 lim, .int .i64 sp, .int .i64 nd] := hw0 ▸ hbo0.alloc _
  have hsz : w0.heap.size = w.heap.size + 1 + 1 := by rw [← hw0]; simp [hs00]
  have hchk := refCheck_any _ _ C w0 (Nat.le_trans hC hb0.size) (ho.belowOf hb0 hC)
  have e0 := hbo.cell 0; have e1 := hbo.cell 1; have e2 := hbo.cell 2; have e3 := hbo.cell 3; have e4 := hbo.cell 4; have e5 := hbo.cell 5
  have e6 := hbo.cell 6; have e7 := hbo.cell 7; have e8 := hbo.cell 8; have e9 := hbo.cell 9; have e10 := hbo.cell 10; have e11 := hbo.cell 11
  have H := Lib.hid h
  have Hbx := Lib.hid hbx
  have Hbo := Lib.hid hbo
  have Hb0 := Lib.hid hb0
  have Hsz := Lib.hid hsz
  have Hchk := Lib.hid hchk
  clear hbo hbo0 hb00 hb0 hbx hsz hchk h ho
  rw [hz] at Hchk
  go_enter Tryz.func10, Tryz.ntmps10
  go_wp2_with fail
  refine Hchk.out.mono ?_
  rintro e w1 ⟨rfl, hb1⟩
  have hbo1 := Hbo.out.below hb1 Hbo.out.lt
  obtain ⟨a0, a1, a2, a3, a4, a5, a6, a7, a8, a9, a10, a11⟩ := box12R hbo1
  have Hbo1 := Lib.hid hbo1
  have Hb1 := Lib.hid hb1
  have Hbw := Lib.hid (Below.trans Hb0.out (hb1.mono (by rw [Hsz.out]; omega)))
  have Hbx1 := Lib.hid (Hbx.out.below hb1 Hbx.out.lt)
  have Hlt1 : Hid (w.heap.size + 1 < w1.heap.size) := Lib.hid (by have := hb1.size; have := Hsz.out; omega)
  clear hbo1 hb1
  have Hfind := Lib.hid (refFind_any (H.out.below Hbw.out) key hl)
  have hrise := H.out.rise
  obtain ⟨P, hP⟩ : ∃ P, posK key.data.toList rs = P := ⟨_, rfl⟩
  obtain ⟨is, his⟩ : ∃ b, (getK key.data.toList rs).isSome = b := ⟨_, rfl⟩
  have hget := getK_pos key.data.toList rs hrise
  rw [hP, his] at Hfind
  rw [hP] at hget
  have HP := Lib.hid hP
  have HS := Lib.hid his
  have Hget := Lib.hid hget
  have Hl := Lib.hid hl
  have His : Hid (is = (getK key.data.toList (mapK (·.2) rs)).isSome) := Lib.hid (by rw [← his]; exact (isSome_mapK _ _).symm)
  clear hP his hget hrise hl
  go_wp2_with fail
  refine Hfind.out.mono ?_
  rintro e w2 ⟨rfl, m2, h2⟩
  have hbo2 := Hbo1.out.below (below_drews (Below.refl w1.heap.size w1) m2) Hbo1.out.lt
  have hbx2 := Hbx1.out.below (below_drews (Below.refl w1.heap.size w1) m2) Hbx1.out.lt
  rw [← h2] at hbo2 hbx2
  have Hb2 : Hid (Below w.heap.size w w2) := Lib.hid (by rw [h2]; exact below_drews Hbw.out m2)
  have Hlt2 : Hid (w.heap.size + 1 < w2.heap.size) := Lib.hid (by rw [h2]; exact Hlt1.out)
  have HR2 : Hid (RSt w2 B tb rv xv rs F) := Lib.hid (H.out.below Hb2.out)
  have Hbx2 := Lib.hid hbx2
  have Hbo2 := Lib.hid hbo2
  have Htb := Lib.hid H.out.lt
  clear h2 a0 a1 a2 a3 a4 a5 a6 a7 a8 a9 a10 a11
  obtain ⟨a0, a1, a2, a3, a4, a5, a6, a7, a8, a9, a10, a11⟩ := box12R hbo2
  obtain ⟨tc0, tc1, -, -⟩ := HR2.out.cells
  have hrw := HR2.out.rows
  obtain ⟨Aw, N, cw, hre, hwl⟩ : ∃ Aw N cw, rv = .slice Aw N cw ∧ rs.length = N := by
    obtain ⟨A', c', e, -⟩ := own_sliceN hrw
    exact ⟨A', _, c', e, rfl⟩
  rw [hre] at tc0
  clear hbo2 hbx2
  cases is with
  | true =>
    obtain ⟨x, hx, hxk⟩ : ∃ x, rs[P]? = some x ∧ getK key.data.toList rs = some x.2 := by
      have h1 := Hget.out
      have h2 := HS.out
      rw [h1] at h2
      cases hp : rs[P]? with
      | none => rw [hp] at h2; cases h2
      | some x =>
        rw [hp] at h1 h2
        refine ⟨x, rfl, ?_⟩
        simp only [Option.bind_some] at h1 h2
        by_cases e : x.1 = key.data.toList
        · rw [if_pos e] at h1
          exact h1
        · rw [if_neg e] at h2
          cases h2
    have hPN : P < N := by rw [← hwl]; exact (List.getElem?_eq_some_iff.1 hx).1
    have hrw' := hrw
    rw [hre, hwl] at hrw'
    obtain ⟨aw, rfl, hcw⟩ := row_cellR hrw' hPN hx
    have hxo := HR2.out.recs x (List.mem_of_getElem? hx)
    obtain ⟨Ax, cx, ex, -⟩ := own_sliceN hxo
    obtain ⟨zx, hzx⟩ : ∃ z, x.2.2.length = z := ⟨_, rfl⟩
    rw [hzx] at ex
    rw [ex] at hcw
    have Hxo : Hid (w2.ownsRow B 53 3 (.slice Ax zx cx) x.2.2.length (valCells x.2.2)) := Lib.hid (by rw [← ex]; exact hxo)
    have Hzx := Lib.hid hzx
    have Hxk : Hid ((getK key.data.toList (mapK (·.2) rs)).getD [] = x.2.2) := Lib.hid (by rw [mapK_get, hxk]; rfl)
    have p0 : (0 : Int) ≤ (P : Int) := by omega
    have p1 : (P : Int) < (N : Int) := by omega
    clear hx hxk hxo ex hrw' hzx
    have Hcall := Lib.hid (refDel_any HR2.out key Hl.out)
    go_wp2_with fail
    refine Hcall.out.mono ?_
    rintro e w5 ⟨rfl, rv5, hR5, hg5⟩
    have hbx5 := Hbx2.out.grown hg5 (fun e => by injection e with e; have := Htb.out; omega)
    obtain ⟨r0, r1, r2, r3, r4, k0, k1, k2, k3, k4⟩ := box5 hbx5
    obtain ⟨W3, hW3⟩ : ∃ W3, ((((w5.setCell ⟨w.heap.size + 1, 0, none⟩ (.int .i64 0)).setCell ⟨w.heap.size + 1, 1, none⟩ (.bool true)).setCell ⟨w.heap.size + 1, 2, none⟩ (.slice none 0 0)).setCell ⟨w.heap.size + 1, 3, none⟩ (.slice none 0 0)).setCell ⟨w.heap.size + 1, 4, none⟩ (.int .i64 0) = W3 := ⟨_, rfl⟩
    obtain ⟨p0, p1, p2, p3, p4, -⟩ := box5 (box5_store hbx5 hW3)
    have hend := refDo_end (a := ⟨0, true, [], [], 0⟩) Hb2.out (Nat.le_succ _) H.out.old (RKept.of HR2.out hg5) hR5 hbx5 (World.ownsRow_nil _ _ _ _) (RowsIs.nil _ _) hW3
    rw [mapK_del] at hend
    have Hend : Hid (AnsIs W3 B (replyV 0 true (.slice none 0 0) (.slice none 0 0) 0) ⟨0, (getK key.data.toList (mapK (·.2) rs)).isSome, [], [], 0⟩ ∧ RAbs W3 B tb (delK key.data.toList (mapK (·.2) rs)) (F.map (·.2)) ∧ RKept B w W3) := Lib.hid (by rw [← His.out]; exact hend)
    clear hend hR5 hg5
    clear hbx5
    go_wp2
    refine bodyPost_ret (v := replyV 0 true (.slice none 0 0) (.slice none 0 0) 0) ?_ rfl ⟨_, rfl, Hend.out⟩
    simp [results, Tryz.results10, go_sem, replyV, p0, p1, p2, p3, p4]
  | false =>
    have Hxk : Hid ((getK key.data.toList (mapK (·.2) rs)).getD [] = []) := Lib.hid (by
      have h1 := His.out
      cases e : getK key.data.toList (mapK (·.2) rs) with
      | none => rfl
      | some x => rw [e] at h1; cases h1)
    have Hcall := Lib.hid (refDel_any HR2.out key Hl.out)
    go_wp2_with fail
    refine Hcall.out.mono ?_
    rintro e w5 ⟨rfl, rv5, hR5, hg5⟩
    have hbx5 := Hbx2.out.grown hg5 (fun e => by injection e with e; have := Htb.out; omega)
    obtain ⟨r0, r1, r2, r3, r4, k0, k1, k2, k3, k4⟩ := box5 hbx5
    obtain ⟨W3, hW3⟩ : ∃ W3, ((((w5.setCell ⟨w.heap.size + 1, 0, none⟩ (.int .i64 0)).setCell ⟨w.heap.size + 1, 1, none⟩ (.bool false)).setCell ⟨w.heap.size + 1, 2, none⟩ (.slice none 0 0)).setCell ⟨w.heap.size + 1, 3, none⟩ (.slice none 0 0)).setCell ⟨w.heap.size + 1, 4, none⟩ (.int .i64 0) = W3 := ⟨_, rfl⟩
    obtain ⟨p0, p1, p2, p3, p4, -⟩ := box5 (box5_store hbx5 hW3)
    have hend := refDo_end (a := ⟨0, false, [], [], 0⟩) Hb2.out (Nat.le_succ _) H.out.old (RKept.of HR2.out hg5) hR5 hbx5 (World.ownsRow_nil _ _ _ _) (RowsIs.nil _ _) hW3
    rw [mapK_del] at hend
    have Hend : Hid (AnsIs W3 B (replyV 0 false (.slice none 0 0) (.slice none 0 0) 0) ⟨0, (getK key.data.toList (mapK (·.2) rs)).isSome, [], [], 0⟩ ∧ RAbs W3 B tb (delK key.data.toList (mapK (·.2) rs)) (F.map (·.2)) ∧ RKept B w W3) := Lib.hid (by rw [← His.out]; exact hend)
    clear hend hR5 hg5
    clear hbx5
    go_wp2
    refine bodyPost_ret (v := replyV 0 false (.slice none 0 0) (.slice none 0 0) 0) ?_ rfl ⟨_, rfl, Hend.out⟩
    simp [results, Tryz.results10, go_sem, replyV, p0, p1, p2, p3, p4]
end
end Go.Proofs.YtknfjajmnlpfjaaGreat

namespace Go.Proofs.YtknfjajmnlpfjaaGreat
open Go.RowKit
open Go.Lib (strCells compareBytes)

section
variable {w : World} {B tb : Nat} {rv xv : Value} {rs : Kv (Value × List TVal)} {F : List (Value × List Int)}
theorem clash_end {w1 w5 W3 : World} {rv' xv' rvv svv : Value} {rs' : Kv (Value × List TVal)} {F' : List (Value × List Int)} {a a' : Ans} {M' : Kv (List TVal)} {cs : Array Value} {g : Nat} (hb : Below w.heap.size w w1) (hg : w.heap.size ≤ g) (hBw : B ≤ w.heap.size) (hg5 : RKept B w1 w5) (hR : RSt w5 B tb rv' xv' rs' F') (hbx : Box w5 g 35 cs)
    (h1 : w5.ownsRow B 53 3 rvv a.rc.length (valCells a.rc)) (h2 : RowsIs w5 B svv a.rows) (hW : ((((w5.setCell ⟨g, 0, none⟩ (.int .i64 a.code)).setCell ⟨g, 1, none⟩ (.bool a.there)).setCell ⟨g, 2, none⟩ rvv).setCell ⟨g, 3, none⟩ svv).setCell ⟨g, 4, none⟩ (.int .i64 a.num) = W3) (ha : a = a') (hM : mapK (·.2) rs' = M') :
    AnsIs W3 B (replyV a.code a.there rvv svv a.num) a' ∧ RAbs W3 B tb M' (F'.map (·.2)) ∧ RKept B w W3 := by
  subst ha
  subst hM
  exact refDo_end hb hg hBw hg5 hR hbx h1 h2 hW
theorem own_eqVR {w : World} {B m m' : Nat} {A : Option Addr} {c : Nat} {xs : List Value} (h : w.ownsRow B 53 3 (.slice A m c) m' xs) (hm : m' = m) : w.ownsRow B 53 3 (.slice A m c) m xs := by
  subst hm
  exact h
set_option maxRecDepth 100000 in
set_option maxHeartbeats 3200000 in
theorem ref_k4 (h : RSt w B tb rv xv rs F) (C : Nat) (hC : C ≤ w.heap.size) (key to : ByteArray) (rc old low high : List TVal) (id lim sp nd : Int) (fs : List Int) (Ar Ao Af Al Ah : Option Addr) (nr cr no co nf cf nl cl nh ch : Nat)
    (ho : OpIs w C (.agg #[.int .i64 4, .string key, .string to, .slice Ar nr cr, .slice Ao no co, .int .i64 id, .slice Af nf cf, .slice Al nl cl, .slice Ah nh ch, .int .i64 lim, .int .i64 sp, .int .i64 nd]) ⟨4, key, to, rc, old, id, fs, low, high, lim, sp, nd⟩) (hz : checkT ⟨4, key, to, rc, old, id, fs, low, high, lim, sp, nd⟩ = 0) (hl : rs.length ≤ 1000) (hrc : HasVals w C Ar nr rc) (hgood : GoodRec rc) (hkey : keyOk key.data.toList = true) (hold : HasVals w C Ao no old) (hno60 : no ≤ 1000000) :
    Calls Tryz.prog 10 #[.pointer (some ⟨tb, 0, none⟩), .agg #[.int .i64 4, .string key, .string to, .slice Ar nr cr, .slice Ao no co, .int .i64 id, .slice Af nf cf, .slice Al nl cl, .slice Ah nh ch, .int .i64 lim, .int .i64 sp, .int .i64 nd]] w (RefPost B tb (casA key.data.toList old rc (mapK (·.2) rs)).2 (F.map (·.2)) (casA key.data.toList old rc (mapK (·.2) rs)).1 w) := by
  obtain ⟨w00, hw00⟩ : ∃ w00, w.alloc (.cells #[.int .i64 4, .string key, .string to, .slice Ar nr cr, .slice Ao no co, .int .i64 id, .slice Af nf cf, .slice Al nl cl, .slice Ah nh ch, .int .i64 lim, .int .i64 sp, .int .i64 nd] 39) = w00 := ⟨_, rfl⟩
  have hb00 : Below w.heap.size w w00 := hw00 ▸ below_alloc _ _
  have hbo0 : Box w00 w.heap.size 39 #[.int .i64 4, .string key, .string to, .slice Ar nr cr, .slice Ao no co, .int .i64 id, .slice Af nf cf, .slice Al nl cl, .slice Ah nh ch, .int .i64 lim, .int .i64 sp, .int .i64 nd] := hw00 ▸ Box.made _ _ _
  have hs00 : w00.heap.size = w.heap.size + 1 := by rw [← hw00]; simp
  obtain ⟨w0, hw0⟩ : ∃ w0, w00.alloc (.cells #[.int .i64 0, .bool false, .slice none 0 0, .slice none 0 0, .int .i64 0] 35) = w0 := ⟨_, rfl⟩
  have hb0 : Below w.heap.size w w0 := Below.then hb00 (hw0 ▸ below_alloc _ _)
  have hbx : Box w0 (w.heap.size + 1) 35 #[.int .i64 0, .bool false, .slice none 0 0, .slice none 0 0, .int .i64 0] := hw0 ▸ made_at hs00 _ _
  have hbo : Box w0 w.heap.size 39 #[.int .i64 4, .string key, .string to, .slice Ar nr cr, .slice Ao no co, .int .i64 id, .slice Af nf cf, .slice Al nl cl, .slice Ah nh ch, .int .i64 lim, .int .i64 sp, .int .i64 nd] := hw0 ▸ hbo0.alloc _
  have hsz : w0.heap.size = w.heap.size + 1 + 1 := by rw [← hw0]; simp [hs00]
  have hchk := refCheck_any _ _ C w0 (Nat.le_trans hC hb0.size) (ho.belowOf hb0 hC)
  have e0 := hbo.cell 0; have e1 := hbo.cell 1; have e2 := hbo.cell 2; have e3 := hbo.cell 3; have e4 := hbo.cell 4; have e5 := hbo.cell 5
  have e6 := hbo.cell 6; have e7 := hbo.cell 7; have e8 := hbo.cell 8; have e9 := hbo.cell 9; have e10 := hbo.cell 10; have e11 := hbo.cell 11
  have H := Lib.hid h
  have Hbx := Lib.hid hbx
  have Hbo := Lib.hid hbo
  have Hb0 := Lib.hid hb0
  have Hsz := Lib.hid hsz
  have Hchk := Lib.hid hchk
  clear hbo hbo0 hb00 hb0 hbx hsz hchk h ho
  rw [hz] at Hchk
  go_enter Tryz.func10, Tryz.ntmps10
  go_wp2_with fail
  refine Hchk.out.mono ?_
  rintro e w1 ⟨rfl, hb1⟩
  have hbo1 := Hbo.out.below hb1 Hbo.out.lt
  obtain ⟨a0, a1, a2, a3, a4, a5, a6, a7, a8, a9, a10, a11⟩ := box12R hbo1
  have Hbo1 := Lib.hid hbo1
  have Hb1 := Lib.hid hb1
  have Hbw := Lib.hid (Below.trans Hb0.out (hb1.mono (by rw [Hsz.out]; omega)))
  have Hbx1 := Lib.hid (Hbx.out.below hb1 Hbx.out.lt)
  have Hlt1 : Hid (w.heap.size + 1 < w1.heap.size) := Lib.hid (by have := hb1.size; have := Hsz.out; omega)
  clear hbo1 hb1
  have Hfind := Lib.hid (refFind_any (H.out.below Hbw.out) key hl)
  have hrise := H.out.rise
  obtain ⟨P, hP⟩ : ∃ P, posK key.data.toList rs = P := ⟨_, rfl⟩
  obtain ⟨is, his⟩ : ∃ b, (getK key.data.toList rs).isSome = b := ⟨_, rfl⟩
  have hget := getK_pos key.data.toList rs hrise
  rw [hP, his] at Hfind
  rw [hP] at hget
  have HP := Lib.hid hP
  have HS := Lib.hid his
  have Hget := Lib.hid hget
  have Hl := Lib.hid hl
  have His : Hid (is = (getK key.data.toList (mapK (·.2) rs)).isSome) := Lib.hid (by rw [← his]; exact (isSome_mapK _ _).symm)
  clear hP his hget hrise hl
  go_wp2_with fail
  refine Hfind.out.mono ?_
  rintro e w2 ⟨rfl, m2, h2⟩
  have hbo2 := Hbo1.out.below (below_drews (Below.refl w1.heap.size w1) m2) Hbo1.out.lt
  have hbx2 := Hbx1.out.below (below_drews (Below.refl w1.heap.size w1) m2) Hbx1.out.lt
  rw [← h2] at hbo2 hbx2
  have Hb2 : Hid (Below w.heap.size w w2) := Lib.hid (by rw [h2]; exact below_drews Hbw.out m2)
  have Hlt2 : Hid (w.heap.size + 1 < w2.heap.size) := Lib.hid (by rw [h2]; exact Hlt1.out)
  have HR2 : Hid (RSt w2 B tb rv xv rs F) := Lib.hid (H.out.below Hb2.out)
  have Hbx2 := Lib.hid hbx2
  have Hbo2 := Lib.hid hbo2
  have Htb := Lib.hid H.out.lt
  clear h2 a0 a1 a2 a3 a4 a5 a6 a7 a8 a9 a10 a11
  obtain ⟨a0, a1, a2, a3, a4, a5, a6, a7, a8, a9, a10, a11⟩ := box12R hbo2
  obtain ⟨tc0, tc1, -, -⟩ := HR2.out.cells
  have hrw := HR2.out.rows
  obtain ⟨Aw, N, cw, hre, hwl⟩ : ∃ Aw N cw, rv = .slice Aw N cw ∧ rs.length = N := by
    obtain ⟨A', c', e, -⟩ := own_sliceN hrw
    exact ⟨A', _, c', e, rfl⟩
  rw [hre] at tc0
  clear hbo2 hbx2
  cases is with
  | true =>
    obtain ⟨x, hx, hxk⟩ : ∃ x, rs[P]? = some x ∧ getK key.data.toList rs = some x.2 := by
      have h1 := Hget.out
      have h2 := HS.out
      rw [h1] at h2
      cases hp : rs[P]? with
      | none => rw [hp] at h2; cases h2
      | some x =>
        rw [hp] at h1 h2
        refine ⟨x, rfl, ?_⟩
        simp only [Option.bind_some] at h1 h2
        by_cases e : x.1 = key.data.toList
        · rw [if_pos e] at h1
          exact h1
        · rw [if_neg e] at h2
          cases h2
    have hPN : P < N := by rw [← hwl]; exact (List.getElem?_eq_some_iff.1 hx).1
    have hrw' := hrw
    rw [hre, hwl] at hrw'
    obtain ⟨aw, rfl, hcw⟩ := row_cellR hrw' hPN hx
    have hxo := HR2.out.recs x (List.mem_of_getElem? hx)
    obtain ⟨Ax, cx, ex, -⟩ := own_sliceN hxo
    obtain ⟨zx, hzx⟩ : ∃ z, x.2.2.length = z := ⟨_, rfl⟩
    rw [hzx] at ex
    rw [ex] at hcw
    have Hxo : Hid (w2.ownsRow B 53 3 (.slice Ax zx cx) x.2.2.length (valCells x.2.2)) := Lib.hid (by rw [← ex]; exact hxo)
    have Hzx := Lib.hid hzx
    have Hxk : Hid ((getK key.data.toList (mapK (·.2) rs)).getD [] = x.2.2) := Lib.hid (by rw [mapK_get, hxk]; rfl)
    have p0 : (0 : Int) ≤ (P : Int) := by omega
    have p1 : (P : Int) < (N : Int) := by omega
    have hmem := List.mem_of_getElem? hx
    clear hx hxk hxo ex hrw' hzx
    have HS2 := HR2
    have HB2 := Hb2
    have HX2 := Hbx2
    have hno : old.length = no := hold.1
    have hpos := (HR2.out.good x hmem).1.pos
    by_cases hn0 : no = 0
    · have o0 : ¬ (0 : Int) < (no : Int) := by omega
      have hne : ¬ (getK key.data.toList (mapK (·.2) rs)).getD [] = old := by
        rw [Hxk.out]
        intro e
        rw [e] at hpos
        omega
      have hcas : (casA key.data.toList old rc (mapK (·.2) rs)) = (⟨9, true, x.2.2, [], 0⟩, mapK (·.2) rs) := by
        unfold casA
        rw [if_neg (hne), ← His.out, Hxk.out]
      have Hcas := Lib.hid hcas
      have hbx5 := HX2.out
      clear hcas
      obtain ⟨r0, r1, r2, r3, r4, k0, k1, k2, k3, k4⟩ := box5 hbx5
      obtain ⟨W3, hW3⟩ : ∃ W3, ((((w2.setCell ⟨w.heap.size + 1, 0, none⟩ (.int .i64 9)).setCell ⟨w.heap.size + 1, 1, none⟩ (.bool true)).setCell ⟨w.heap.size + 1, 2, none⟩ (.slice Ax zx cx)).setCell ⟨w.heap.size + 1, 3, none⟩ (.slice none 0 0)).setCell ⟨w.heap.size + 1, 4, none⟩ (.int .i64 0) = W3 := ⟨_, rfl⟩
      obtain ⟨p0, p1, p2, p3, p4, -⟩ := box5 (box5_store hbx5 hW3)
      have Hend := Lib.hid (clash_end (a := ⟨9, true, x.2.2, [], 0⟩) (a' := (casA key.data.toList old rc (mapK (·.2) rs)).1) (M' := (casA key.data.toList old rc (mapK (·.2) rs)).2) HB2.out (Nat.le_succ _) H.out.old (RKept.refl _ _) HS2.out hbx5 Hxo.out (RowsIs.nil _ _) hW3 (by rw [Hcas.out]) (by rw [Hcas.out]))
      clear hbx5
      go_wp2
      refine bodyPost_ret (v := replyV 9 true (.slice Ax zx cx) (.slice none 0 0) 0) ?_ rfl ⟨_, rfl, Hend.out⟩
      simp [results, Tryz.results10, go_sem, replyV, p0, p1, p2, p3, p4]
    · have o0 : (0 : Int) < (no : Int) := by omega
      have hsm := same_any Ax Ao zx no cx co _ _ x.2.2 old w2 (own_vals (own_eqVR Hxo.out Hzx.out)) (hold.belowOf Hb2.out hC) (by have := (HR2.out.good x hmem).1.le; have := Hzx.out; simp only [maxLen]; omega) (by simp only [maxLen]; have := hno60; omega)
      have Hsm := Lib.hid hsm
      clear hsm
      by_cases heq : x.2.2 = old
      · rw [decide_eq_true heq] at Hsm
        go_wp2_with fail
        refine Hsm.out.mono ?_
        rintro e w2b ⟨rfl, hb2b⟩
        have HS2 := Lib.hid (HR2.out.below hb2b)
        have HX2 := Lib.hid (Hbx2.out.below hb2b Hbx2.out.lt)
        have HO2 := Hbo2.out.below hb2b Hbo2.out.lt
        have HB2 : Hid (Below w.heap.size w w2b) := Lib.hid (Hb2.out.trans (hb2b.mono Hb2.out.size))
        clear a0 a1 a2 a3 a4 a5 a6 a7 a8 a9 a10 a11
        obtain ⟨a0, a1, a2, a3, a4, a5, a6, a7, a8, a9, a10, a11⟩ := box12R HO2
        clear HO2 hb2b
        have hcas : (casA key.data.toList old rc (mapK (·.2) rs)) = (⟨0, true, [], [], 0⟩, putK key.data.toList rc (mapK (·.2) rs)) := by
          unfold casA
          rw [if_pos (by rw [Hxk.out]; exact heq), ← His.out]
        have Hcas := Lib.hid hcas
        clear hcas
        have Hcall := Lib.hid (refPut_any HS2.out key Ar nr cr C rc (hrc.belowOf HB2.out hC) (Nat.le_trans hC HB2.out.size) hgood hkey Hl.out)
        go_wp2_with fail
        refine Hcall.out.mono ?_
        rintro e w5 ⟨rfl, rv5, vo5, hR5, hg5⟩
        have hbx5 := HX2.out.grown hg5 (fun e => by injection e with e; have := Htb.out; omega)
        obtain ⟨r0, r1, r2, r3, r4, k0, k1, k2, k3, k4⟩ := box5 hbx5
        obtain ⟨W3, hW3⟩ : ∃ W3, ((((w5.setCell ⟨w.heap.size + 1, 0, none⟩ (.int .i64 0)).setCell ⟨w.heap.size + 1, 1, none⟩ (.bool true)).setCell ⟨w.heap.size + 1, 2, none⟩ (.slice none 0 0)).setCell ⟨w.heap.size + 1, 3, none⟩ (.slice none 0 0)).setCell ⟨w.heap.size + 1, 4, none⟩ (.int .i64 0) = W3 := ⟨_, rfl⟩
        obtain ⟨p0, p1, p2, p3, p4, -⟩ := box5 (box5_store hbx5 hW3)
        have Hend := Lib.hid (clash_end (a := ⟨0, true, [], [], 0⟩) (a' := (casA key.data.toList old rc (mapK (·.2) rs)).1) (M' := (casA key.data.toList old rc (mapK (·.2) rs)).2) HB2.out (Nat.le_succ _) H.out.old (RKept.of HS2.out hg5) hR5 hbx5 (World.ownsRow_nil _ _ _ _) (RowsIs.nil _ _) hW3 (by rw [Hcas.out]) (by rw [Hcas.out, mapK_put]))
        clear hR5 hg5
        clear hbx5
        go_wp2
        refine bodyPost_ret (v := replyV 0 true (.slice none 0 0) (.slice none 0 0) 0) ?_ rfl ⟨_, rfl, Hend.out⟩
        simp [results, Tryz.results10, go_sem, replyV, p0, p1, p2, p3, p4]
      · rw [decide_eq_false heq] at Hsm
        go_wp2_with fail
        refine Hsm.out.mono ?_
        rintro e w2b ⟨rfl, hb2b⟩
        have HS2 := Lib.hid (HR2.out.below hb2b)
        have HX2 := Lib.hid (Hbx2.out.below hb2b Hbx2.out.lt)
        have HB2 : Hid (Below w.heap.size w w2b) := Lib.hid (Hb2.out.trans (hb2b.mono Hb2.out.size))
        have Hxo2 := Lib.hid (own_belowN Hxo.out hb2b)
        clear hb2b
        have hcas : (casA key.data.toList old rc (mapK (·.2) rs)) = (⟨9, true, x.2.2, [], 0⟩, mapK (·.2) rs) := by
          unfold casA
          rw [if_neg (by rw [Hxk.out]; exact heq), ← His.out, Hxk.out]
        have Hcas := Lib.hid hcas
        have hbx5 := HX2.out
        clear hcas
        obtain ⟨r0, r1, r2, r3, r4, k0, k1, k2, k3, k4⟩ := box5 hbx5
        obtain ⟨W3, hW3⟩ : ∃ W3, ((((w2b.setCell ⟨w.heap.size + 1, 0, none⟩ (.int .i64 9)).setCell ⟨w.heap.size + 1, 1, none⟩ (.bool true)).setCell ⟨w.heap.size + 1, 2, none⟩ (.slice Ax zx cx)).setCell ⟨w.heap.size + 1, 3, none⟩ (.slice none 0 0)).setCell ⟨w.heap.size + 1, 4, none⟩ (.int .i64 0) = W3 := ⟨_, rfl⟩
        obtain ⟨p0, p1, p2, p3, p4, -⟩ := box5 (box5_store hbx5 hW3)
        have Hend := Lib.hid (clash_end (a := ⟨9, true, x.2.2, [], 0⟩) (a' := (casA key.data.toList old rc (mapK (·.2) rs)).1) (M' := (casA key.data.toList old rc (mapK (·.2) rs)).2) HB2.out (Nat.le_succ _) H.out.old (RKept.refl _ _) HS2.out hbx5 Hxo2.out (RowsIs.nil _ _) hW3 (by rw [Hcas.out]) (by rw [Hcas.out]))
        clear hbx5
        go_wp2
        refine bodyPost_ret (v := replyV 9 true (.slice Ax zx cx) (.slice none 0 0) 0) ?_ rfl ⟨_, rfl, Hend.out⟩
        simp [results, Tryz.results10, go_sem, replyV, p0, p1, p2, p3, p4]
  | false =>
    have Hxk : Hid ((getK key.data.toList (mapK (·.2) rs)).getD [] = []) := Lib.hid (by
      have h1 := His.out
      cases e : getK key.data.toList (mapK (·.2) rs) with
      | none => rfl
      | some x => rw [e] at h1; cases h1)
    have HS2 := HR2
    have HB2 := Hb2
    have HX2 := Hbx2
    have hno : old.length = no := hold.1
    by_cases hn0 : no = 0
    · have o0 : ¬ (0 : Int) < (no : Int) := by omega
      have hcas : (casA key.data.toList old rc (mapK (·.2) rs)) = (⟨0, false, [], [], 0⟩, putK key.data.toList rc (mapK (·.2) rs)) := by
        unfold casA
        rw [if_pos (by rw [Hxk.out]; exact (List.eq_nil_of_length_eq_zero (by omega)).symm), ← His.out]
      have Hcas := Lib.hid hcas
      clear hcas
      have Hcall := Lib.hid (refPut_any HS2.out key Ar nr cr C rc (hrc.belowOf HB2.out hC) (Nat.le_trans hC HB2.out.size) hgood hkey Hl.out)
      go_wp2_with fail
      refine Hcall.out.mono ?_
      rintro e w5 ⟨rfl, rv5, vo5, hR5, hg5⟩
      have hbx5 := HX2.out.grown hg5 (fun e => by injection e with e; have := Htb.out; omega)
      obtain ⟨r0, r1, r2, r3, r4, k0, k1, k2, k3, k4⟩ := box5 hbx5
      obtain ⟨W3, hW3⟩ : ∃ W3, ((((w5.setCell ⟨w.heap.size + 1, 0, none⟩ (.int .i64 0)).setCell ⟨w.heap.size + 1, 1, none⟩ (.bool false)).setCell ⟨w.heap.size + 1, 2, none⟩ (.slice none 0 0)).setCell ⟨w.heap.size + 1, 3, none⟩ (.slice none 0 0)).setCell ⟨w.heap.size + 1, 4, none⟩ (.int .i64 0) = W3 := ⟨_, rfl⟩
      obtain ⟨p0, p1, p2, p3, p4, -⟩ := box5 (box5_store hbx5 hW3)
      have Hend := Lib.hid (clash_end (a := ⟨0, false, [], [], 0⟩) (a' := (casA key.data.toList old rc (mapK (·.2) rs)).1) (M' := (casA key.data.toList old rc (mapK (·.2) rs)).2) HB2.out (Nat.le_succ _) H.out.old (RKept.of HS2.out hg5) hR5 hbx5 (World.ownsRow_nil _ _ _ _) (RowsIs.nil _ _) hW3 (by rw [Hcas.out]) (by rw [Hcas.out, mapK_put]))
      clear hR5 hg5
      clear hbx5
      go_wp2
      refine bodyPost_ret (v := replyV 0 false (.slice none 0 0) (.slice none 0 0) 0) ?_ rfl ⟨_, rfl, Hend.out⟩
      simp [results, Tryz.results10, go_sem, replyV, p0, p1, p2, p3, p4]
    · have o0 : (0 : Int) < (no : Int) := by omega
      have hcas : (casA key.data.toList old rc (mapK (·.2) rs)) = (⟨9, false, [], [], 0⟩, mapK (·.2) rs) := by
        unfold casA
        rw [if_neg (by rw [Hxk.out]; intro e; rw [← e] at hno; simp at hno; omega), ← His.out, Hxk.out]
      have Hcas := Lib.hid hcas
      have hbx5 := HX2.out
      clear hcas
      obtain ⟨r0, r1, r2, r3, r4, k0, k1, k2, k3, k4⟩ := box5 hbx5
      obtain ⟨W3, hW3⟩ : ∃ W3, ((((w2.setCell ⟨w.heap.size + 1, 0, none⟩ (.int .i64 9)).setCell ⟨w.heap.size + 1, 1, none⟩ (.bool false)).setCell ⟨w.heap.size + 1, 2, none⟩ (.slice none 0 0)).setCell ⟨w.heap.size + 1, 3, none⟩ (.slice none 0 0)).setCell ⟨w.heap.size + 1, 4, none⟩ (.int .i64 0) = W3 := ⟨_, rfl⟩
      obtain ⟨p0, p1, p2, p3, p4, -⟩ := box5 (box5_store hbx5 hW3)
      have Hend := Lib.hid (clash_end (a := ⟨9, false, [], [], 0⟩) (a' := (casA key.data.toList old rc (mapK (·.2) rs)).1) (M' := (casA key.data.toList old rc (mapK (·.2) rs)).2) HB2.out (Nat.le_succ _) H.out.old (RKept.refl _ _) HS2.out hbx5 (World.ownsRow_nil _ _ _ _) (RowsIs.nil _ _) hW3 (by rw [Hcas.out]) (by rw [Hcas.out]))
      clear hbx5
      go_wp2
      refine bodyPost_ret (v := replyV 9 false (.slice none 0 0) (.slice none 0 0) 0) ?_ rfl ⟨_, rfl, Hend.out⟩
      simp [results, Tryz.results10, go_sem, replyV, p0, p1, p2, p3, p4]
end
end Go.Proofs.YtknfjajmnlpfjaaGreat

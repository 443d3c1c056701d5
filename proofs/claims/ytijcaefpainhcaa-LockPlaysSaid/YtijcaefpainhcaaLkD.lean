/- Package lock: Tick. Condition: the table is in memory. -/
import Derived.Test.YtijcaefpainhcaaLkC
namespace Go.Proofs.Ytijcaefpainhcaa
open Go.RowKit Go.Maps

section
variable {F : Nat → Prop} {w w1 : World} {sb mb : Nat} {lease : Int} {M : List LE}
/-- the loop over the table's map is under way: what is still to come stands as it was in E -/
def TickR (w wr : World) (F : Nat → Prop) (sb mb : Nat) (lease : Int) (n : Nat) (f : TL → Option TL) (E : List TL) (M : List LE) (left : Lit → Bool) (cnt : Nat) : Prop :=
  wr.ranges Try.prog 3 Rn mb w.heap.size n (lmap M) left cnt ∧ LkAt wr (addF F w wr) sb mb lease M ∧ pl M = E.filterMap (gL f left) ∧ KeptF F w wr
theorem left_all {left : Lit → Bool} (hl : left = Maps.has (lmap M)) : ∀ p ∈ pl M, left (.int .i64 p.n) = true := by
  intro p hp
  obtain ⟨e, he, rfl⟩ := List.mem_map.1 hp
  rw [hl, lmap_has]
  cases hg : getM e.p.n M with
  | none => exact absurd rfl (getM_none hg e he)
  | some q => rfl
theorem grown_none {w0 : World} (h : w.grownBy w0 none) : Below w.heap.size w w0 := ⟨h.os, h.tape, h.output, h.size, fun i hi => h.block i hi (by simp)⟩
theorem TickR.start (h : LkAt w F sb mb lease M) (f : TL → Option TL) {w0 : World} (hr : w0.ranges Try.prog 3 Rn mb w.heap.size M.length (lmap M) (Maps.has (lmap M)) (Maps.size (lmap M))) (hg : w.grownBy w0 none) : TickR w w0 F sb mb lease M.length f (pl M) M (Maps.has (lmap M)) (Maps.size (lmap M)) :=
  ⟨hr, (h.below (grown_none hg)).add, (gL_start (left_all rfl)).symm, KeptF.of (grown_none hg)⟩
theorem wf_bounds {k : Int} (h : (Lit.int .i64 k).wf = true) : -9223372036854775808 ≤ k ∧ k ≤ 9223372036854775807 := by
  have h1 : IntKind.i64.min = -9223372036854775808 := by decide
  have h2 : IntKind.i64.max = 9223372036854775807 := by decide
  simpa only [Lit.wf, h1, h2, Bool.and_eq_true, decide_eq_true_eq] using h
theorem addF_keep {w0 w2 : World} (hs : w2.heap.size = w0.heap.size) : addF F w w2 = addF F w w0 := by unfold addF; rw [hs]
theorem ranges_iter {H : Type} {P : Program} {k : TypeId} {R : Value → Option (DataW H × List MemPlace)} {b r n : Nat} {D : DataW H} {left : Lit → Bool} {cnt : Nat} (h : w.ranges P k R b r n D left cnt) : ∃ a s x y, w.heap[r]? = some (.mapIter a s x y) := by
  obtain ⟨es, clock, since, seen, c0, hb, F, hs, hD, hr, rest⟩ := h
  exact ⟨_, _, _, _, hr⟩
/-- an iterator's step turns nothing of the table -/
theorem LkAt.iter (h : LkAt w F sb mb lease M) {r : Nat} (hr : ∃ a s x y, w.heap[r]? = some (.mapIter a s x y)) (hg : w.grownBy w1 (some r)) : LkAt w1 F sb mb lease M := by
  obtain ⟨a, s, x, y, hr⟩ := hr
  obtain ⟨es, c, hm⟩ := mapL_block h.own
  have kk : ∀ (i : Nat) (o : Obj), w.heap[i]? = some o → (∀ a s x y, o ≠ .mapIter a s x y) → w1.heap[i]? = w.heap[i]? := fun i o ho hn => by
    refine hg.block i (Array.getElem?_eq_some_iff.1 ho).1 fun e => ?_
    injection e with e
    subst e
    rw [hr] at ho
    exact hn _ _ _ _ (by injection ho with ho; exact ho.symm)
  have hc : ∀ (i : Nat) (cs : Array Value) (t : TypeId), w.heap[i]? = some (.cells cs t) → w1.heap[i]? = w.heap[i]? := fun i cs t hi => kk i _ hi (by intro a s x y e; cases e)
  exact { h with
    lt := fun i hi => Nat.lt_of_lt_of_le (h.lt i hi) hg.size
    box := (hc _ _ _ h.box).trans h.box
    own := mapL_keep h.own (kk _ _ hm (by intro a s x y e; cases e))
    held := fun e he => (hc _ _ _ (h.held e he)).trans (h.held e he)
    rows := fun e he => ownL_keep (h.rows e he) fun g hg' => by
      obtain ⟨cs, h1⟩ := ownL_type (h.rows e he) hg'
      exact hc _ _ _ h1 }
theorem delL_updL (x : TL) (E : List TL) : delL x.n (updL x E) = delL x.n E := by
  unfold delL updL
  induction E with
  | nil => rfl
  | cons p l ih =>
    simp only [List.map_cons, List.filter_cons, ih]
    by_cases h : p.n = x.n
    · simp [h]
    · simp [h]
section
variable {n cnt cnt1 cnt2 : Nat} {f : TL → Option TL} {E : List TL} {M1 : List LE} {left : Lit → Bool} {wr w2 w3 : World}
theorem TickR.next (h : TickR w wr F sb mb lease n f E M1 left cnt) (hg : wr.grownBy w1 (some w.heap.size)) (hs : w1.heap.size = wr.heap.size) : LkAt w1 (addF F w w1) sb mb lease M1 ∧ KeptF F w w1 := by
  rw [addF_keep hs]
  have hr := h.1.lt
  exact ⟨h.2.1.iter (ranges_iter h.1) hg, h.2.2.2.trans (KeptF.grown hg (.inr ⟨Nat.le_refl _, hr⟩))⟩
theorem TickR.upd (hE : RiseL E) (hf : ∀ p q, f p = some q → q.n = p.n) (hp : pl M1 = E.filterMap (gL f left)) (k1 : KeptF F w w1) {e x : LE} (he : e ∈ M1) (hl : left (.int .i64 e.p.n) = true) (hx : f e.p = some x.p) (hxb : x.b = e.b) (hrise : RiseL (pl M1))
    (h2 : LkAt w2 (addF (addF F w w1) w1 w2) sb mb lease (updM x M1)) (k2 : KeptF (addF F w w1) w1 w2) (hr : w2.ranges Try.prog 3 Rn mb w.heap.size n (lmap M1) (fun z => left z && !z.sameKey (.int .i64 e.p.n)) cnt1) :
    TickR w w2 F sb mb lease n f E (updM x M1) (fun z => left z && !z.sameKey (.int .i64 e.p.n)) cnt1 := by
  have hxn := hf _ _ hx
  have hm : e.p ∈ E := gL_mem hf (hp ▸ List.mem_map.2 ⟨e, he, rfl⟩) hl
  have e1 : lmap (updM x M1) = lmap M1 := lmap_upd fun q hq hqn => by rw [rise_eqM hrise hq he (hqn.trans hxn)]; exact hxb.symm
  rw [addF_two k1.size k2.size] at h2
  refine ⟨e1 ▸ hr, h2, ?_, k1.trans k2⟩
  rw [pl_upd, hp]
  exact gL_upd hE hf hm hx
theorem TickR.del (hE : RiseL E) (hf : ∀ p q, f p = some q → q.n = p.n) (hp : pl M1 = E.filterMap (gL f left)) (k1 : KeptF F w w1) {e x : LE} (he : e ∈ M1) (hl : left (.int .i64 e.p.n) = true) (hx : f e.p = none) (hxn : x.p.n = e.p.n) (hxb : x.b = e.b) (hrise : RiseL (pl M1))
    (h2 : LkAt w2 (addF (addF F w w1) w1 w2) sb mb lease (updM x M1)) (k2 : KeptF (addF F w w1) w1 w2) (hr : w3.ranges Try.prog 3 Rn mb w.heap.size n ((lmap M1).del (.int .i64 e.p.n)) (fun z => left z && !z.sameKey (.int .i64 e.p.n)) cnt2) (hT : w2.mapTurned w3 mb) (hs : w3.heap.size = w2.heap.size) :
    TickR w w3 F sb mb lease n f E (delM e.p.n (updM x M1)) (fun z => left z && !z.sameKey (.int .i64 e.p.n)) cnt2 := by
  have hm : e.p ∈ E := gL_mem hf (hp ▸ List.mem_map.2 ⟨e, he, rfl⟩) hl
  have e1 : lmap (updM x M1) = lmap M1 := lmap_upd fun q hq hqn => by rw [rise_eqM hrise hq he (hqn.trans hxn)]; exact hxb.symm
  rw [addF_two k1.size k2.size] at h2
  obtain ⟨h3, k3⟩ := h2.del (k := e.p.n) (e1.symm ▸ hr.owns) hT
  refine ⟨?_, addF_keep hs ▸ h3, ?_, (k1.trans k2).trans k3⟩
  · rw [← lmap_del, e1]
    exact hr
  · rw [pl_del, pl_upd, ← hxn, delL_updL, hp, hxn]
    exact gL_del hE hf hm hx
end
theorem mapTurned_size {w w' : World} {b : Nat} (h : w.mapTurned w' b) : w'.heap.size = w.heap.size := by
  obtain ⟨es, c, es', c', hm, rfl⟩ := h
  simp [ChangeMaps.setBlock]
set_option maxRecDepth 100000 in
set_option maxHeartbeats 6400000 in
theorem lockTick_any (h : LkAt w F sb mb lease M) (hl : ∀ p ∈ pl M, 1 ≤ p.left ∧ p.left ≤ 9223372036854775807) : Calls Try.prog 40 #[.pointer (some ⟨sb, 0, none⟩)] w fun e w' =>
    e = .returned (.tuple #[]) ∧ ∃ M', LkAt w' (addF F w w') sb mb lease M' ∧ pl M' = tickT (pl M) ∧ KeptF F w w' := by
  obtain ⟨q0, q1⟩ := h.cells
  have HS := Lib.hid (fun (w0 : World) hr hg => TickR.start h tick1 (w0 := w0) hr hg)
  have HL := Lib.hid (And.intro hl h.rise)
  have hown := h.own
  clear h hl
  go_enter Try.func40, Try.ntmps40
  go_wp2_with (first
    | (at_range; refine wpList_range_own _ rfl _ 73 rfl 3 79 intKeyed Try.underlying73 _ mb M.length _ rfl hown ?_; intro w0 hrg0 hg0 hs0)
    | go_in)
  go_frame
  have H0 := Lib.hid (HS.out w0 hrg0 hg0)
  clear hown q0 q1 hrg0 hg0 hs0 HS
  go_loopw [2] (fun _ wr => ∃ (M1 : List LE) (left : Lit → Bool) (cnt : Nat), Hid (TickR w wr F sb mb lease M.length tick1 (pl M) M1 left cnt)) (fun _ wr => wr.rangeLeft mb w.heap.size)
  case atStart => exact ⟨_, _, _, H0⟩
  case round =>
    obtain ⟨M1, left, cnt, HR⟩ := hrel
    have hrg := HR.out.1
    go_wp2_with (first
      | (at_next; refine wpList_next_lk (w := wr) rfl _ rfl mb w.heap.size M.length M1 left cnt rfl hrg ?_ ?_)
      | go_in)
    · intro _ hl0
      have HE : Hid (LkAt wr (addF F w wr) sb mb lease M1 ∧ pl M1 = tickT (pl M) ∧ KeptF F w wr) := Lib.hid ⟨HR.out.2.1, HR.out.2.2.1.trans (gL_end hl0), HR.out.2.2.2⟩
      clear hrg HR H0
      go_wp2
      go_end0
      exact ⟨rfl, _, HE.out.1, HE.out.2.1, HE.out.2.2⟩
    · intro e w1 cnt1 he hwx hlx hrg1 hlt hg1 hs1 hen
      have hE := HL.out.2
      have hm : e.p ∈ pl M := gL_mem tick_n (HR.out.2.2.1 ▸ List.mem_map.2 ⟨e, he, rfl⟩) hlx
      have hb := HL.out.1 _ hm
      have hwr0 : IntKind.i64.wrap (e.p.left - 1) = e.p.left - 1 := IntWalk.i64_in _ (by omega)
      obtain ⟨z, hz⟩ : ∃ z, e.p.left - 1 = z := ⟨_, rfl⟩
      have hwr : IntKind.i64.wrap (e.p.left - 1) = z := hwr0.trans hz
      have Hz := Lib.hid hz
      obtain ⟨h1, k1⟩ := HR.out.next hg1 hs1
      obtain ⟨⟨c0, c1⟩, -, f1⟩ := h1.heldCells he
      obtain ⟨q0, q1⟩ := h1.cells
      have hne := h1.bNe he
      obtain ⟨w2, hw2⟩ : ∃ w2, w1.setCell ⟨e.b, 1, none⟩ (.int .i64 z) = w2 := ⟨_, rfl⟩
      obtain ⟨h2, k2⟩ := h1.setLeft he z hw2
      have hs2 : w2.heap.size = w1.heap.size := by rw [← hw2]; simp
      obtain ⟨q2, q3⟩ := h2.cells
      have c2 : w2.cell? ⟨e.b, 1, none⟩ = some (.int .i64 z) := ((h2.held ⟨⟨e.p.n, e.p.L, z⟩, e.b, e.A, e.c⟩ (List.mem_map.2 ⟨e, he, by simp⟩))).cell 1
      have hri : e.b ≠ w.heap.size := by
        obtain ⟨a, s, x, y, hr⟩ := ranges_iter hrg1
        intro e0
        have hh : w1.heap[e.b]? = some _ := h1.held e he
        rw [e0, hr] at hh
        cases hh
      have g2 : w1.grownBy w2 (some e.b) := hw2 ▸ ⟨rfl, rfl, rfl, by simp, fun k _ hk => Below.heap_setCell w1 ⟨e.b, 1, none⟩ _ k (fun e0 => hk (by rw [e0]))⟩
      have hrg2 := hrg1.kept g2 (fun e0 => hne.2.1 (by injection e0 with e0; exact e0.symm)) (fun e0 => hri (by injection e0 with e0; exact e0.symm))
      have hrise := h1.rise
      have H2 := Lib.hid (And.intro (h2.mono (G := addF (addF F w w1) w1 w2) (fun i hi => .inl hi) (fun i hi => hi.elim (h2.lt i) (fun hi => hi.2))) k2)
      have H1 := Lib.hid (And.intro k1 hrise)
      have HP := Lib.hid (And.intro hE HR.out.2.2.1)
      have Hcnt : Hid (wr.rangeLeft mb w.heap.size = cnt) := Lib.hid hrg.left_eq
      clear h1 k1 h2 k2 g2 hne hri hm hb hE hrise hrg hg1 hs1 HR hrg1 HL H0 hz hwr0
      by_cases hz0 : z = 0
      · subst hz0
        go_wp2_with (first
          | (at_delete; refine wpList_delete_ranges _ rfl _ _ 73 3 rfl 79 intKeyed Try.underlying73 _ mb w.heap.size M.length _ _ _ rfl hrg2 _ _ rfl (keyOf_int_mk Try.underlying3 hwx) ?_; intro w3 cnt2 hrg3 hle hturn; go_frame)
          | go_in)
        rw [strike_twice] at hrg3
        have HE := Lib.hid (TickR.del HP.out.1 tick_n HP.out.2 H1.out.1 he hlx (by unfold tick1; rw [if_pos Hz.out]) (x := ⟨⟨e.p.n, e.p.L, 0⟩, e.b, e.A, e.c⟩) rfl rfl H1.out.2 H2.out.1 H2.out.2 hrg3 hturn (mapTurned_size hturn))
        go_roundw
        case rel => exact ⟨_, _, _, HE⟩
        case measure => rw [HE.out.1.left_eq, Hcnt.out]; omega
      · have hz2 : (z == 0) = false := by simpa using hz0
        have HE := Lib.hid (TickR.upd HP.out.1 tick_n HP.out.2 H1.out.1 he hlx (by unfold tick1; rw [if_neg (fun e0 => hz0 (Hz.out.symm.trans e0)), Hz.out]) (x := ⟨⟨e.p.n, e.p.L, z⟩, e.b, e.A, e.c⟩) rfl H1.out.2 H2.out.1 H2.out.2 hrg2)
        go_wp2
        go_roundw
        case rel => exact ⟨_, _, _, HE⟩
        case measure => rw [HE.out.1.left_eq, Hcnt.out]; omega
end
end Go.Proofs.Ytijcaefpainhcaa

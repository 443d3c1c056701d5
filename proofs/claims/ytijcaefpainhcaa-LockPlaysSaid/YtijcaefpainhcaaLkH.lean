/- Package lock: Lose. Condition: the table is in memory, its locks as they may be. -/
import Derived.Test.YtijcaefpainhcaaLkG
import Derived.Test.YtijcaefpainhcaaRngO
namespace Go.Proofs.Ytijcaefpainhcaa
open Go.RowKit Go.Maps

section
variable {F : Nat → Prop} {w w1 : World} {sb mb : Nat} {lease b : Int} {M : List LE} {N : Nat}
/-- of the locks that were come to, what is left has a least form -/
def Forms (r : Rg) (E : List TL) (left : Lit → Bool) : Prop := ∀ p ∈ E, left (.int .i64 p.n) = false → ∃ m, IsForm m (fun s => inS p.L s ∧ ¬ hasR r s) ∧ Small 200 m
theorem Forms.next {r : Rg} {E : List TL} {left : Lit → Bool} (h : Forms r E left) (hE : RiseL E) {p : TL} (hp : p ∈ E) {m : List Rg} (hm : IsForm m (fun s => inS p.L s ∧ ¬ hasR r s)) (hs : Small 200 m) : Forms r E (fun z => left z && !z.sameKey (.int .i64 p.n)) := by
  intro q hq hl
  by_cases he : q.n = p.n
  · rw [rise_eq hE hq hp he]
    exact ⟨m, hm, hs⟩
  · have hl2 : (left (.int .i64 q.n) && !(Lit.int .i64 q.n).sameKey (.int .i64 p.n)) = false := hl
    rw [sameKeyI] at hl2
    simp [he] at hl2
    exact h q hq hl2
def LosePost (w : World) (F : Nat → Prop) (sb mb : Nat) (lease : Int) (r : Rg) (N : Nat) (E : List TL) (e : Ending) (w' : World) : Prop :=
  e = .returned (.tuple #[]) ∧ TInv lease (N + 1) (loseT r E) ∧ ∃ M', LkAt w' (addF F w w') sb mb lease M' ∧ pl M' = loseT r E ∧ KeptF F w w'
set_option maxRecDepth 100000 in
set_option maxHeartbeats 6400000 in
theorem lockLose2_any (h : LkAt w F sb mb lease M) (hI : TInv lease N (pl M)) (hN : N ≤ 10000) (r : Rg) (hr : r.lo.size ≤ 200 ∧ r.hi.size ≤ 200) : Calls Try.prog 42 #[.pointer (some ⟨sb, 0, none⟩), ragg r] w
    (fun e w' => LosePost w F sb mb lease r N (pl M) e w' ∧ Forms r (pl M) (fun _ => false)) := by
  obtain ⟨wa, hwa⟩ : ∃ wa, w.alloc (.cells #[.string r.lo, .string r.hi] 23) = wa := ⟨_, rfl⟩
  have b1 : Below w.heap.size w wa := hwa ▸ below_box _
  have x1 : Box wa w.heap.size 23 #[.string r.lo, .string r.hi] := hwa ▸ Box.made _ _ _
  have h1 := h.below b1
  obtain ⟨q0, q1⟩ := h1.cells
  have HS := Lib.hid (fun (w0 : World) hr hg => TickR.start h1 (lose1 r) (w0 := w0) hr hg)
  have HL := Lib.hid (And.intro hI (And.intro hN (And.intro hr h1.rise)))
  have HX : Hid (∀ wx, KeptF F wa wx → Box wx w.heap.size 23 #[.string r.lo, .string r.hi]) := Lib.hid fun wx k => (k.block w.heap.size x1.lt (fun e => by have := h.lt _ e; omega)).trans x1
  have HEnd : Hid (∀ wr, KeptF F wa wr → ∀ M1, LkAt wr (addF F wa wr) sb mb lease M1 → KeptF F w wr ∧ LkAt wr (addF F w wr) sb mb lease M1) := Lib.hid fun wr k M1 hk =>
    ⟨(KeptF.of b1).trans0 k, hk.mono (fun i hi => hi.imp id (fun hi => by have := b1.size; omega)) (fun i hi => hi.elim (fun hi => by have := h.lt i hi; have := b1.size; have := k.size; omega) (fun hi => hi.2))⟩
  have hown := h1.own
  unfold ragg
  clear h h1 hI hr b1 x1 hN
  go_enter Try.func42, Try.ntmps42
  go_wp2_with (first
    | (at_range; refine wpList_range_own _ rfl _ 73 rfl 3 79 intKeyed Try.underlying73 _ mb M.length _ rfl hown ?_; intro w0 hrg0 hg0 hs0)
    | go_in)
  go_frame
  have H0 : Hid (TickR wa w0 F sb mb lease M.length (lose1 r) (pl M) M (has (lmap M)) (size (lmap M)) ∧ Forms r (pl M) (has (lmap M))) := Lib.hid ⟨HS.out w0 hrg0 hg0, fun p hp hl => by rw [left_all rfl p hp] at hl; cases hl⟩
  clear hown q0 q1 hrg0 hg0 hs0 HS
  go_loopw [4] (fun _ wr => ∃ (M1 : List LE) (left : Lit → Bool) (cnt : Nat), Hid (TickR wa wr F sb mb lease M.length (lose1 r) (pl M) M1 left cnt ∧ Forms r (pl M) left)) (fun _ wr => wr.rangeLeft mb wa.heap.size)
  case atStart => exact ⟨_, _, _, H0⟩
  case round =>
    obtain ⟨M1, left, cnt, HR⟩ := hrel
    have hrg := HR.out.1.1
    go_wp2_with (first
      | (at_next; refine wpList_next_lk (w := wr) rfl _ rfl mb wa.heap.size M.length M1 left cnt rfl hrg ?_ ?_)
      | go_in)
    · intro _ hl0
      have HE : Hid (LosePost w F sb mb lease r N (pl M) (.returned (.tuple #[])) wr ∧ Forms r (pl M) (fun _ => false)) := Lib.hid (by
        obtain ⟨a1, a2⟩ := HEnd.out wr HR.out.1.2.2.2 M1 HR.out.1.2.1
        exact ⟨⟨rfl, HL.out.1.lose (fun p hp => HR.out.2 p hp (hl0 _)), M1, a2, HR.out.1.2.2.1.trans (gL_end hl0), a1⟩, fun p hp _ => HR.out.2 p hp (hl0 _)⟩)
      clear hrg HR H0
      go_wp2
      go_end0
      exact HE.out
    · intro e w1 cnt1 he hwx hlx hrg1 hlt hg1 hs1 hen
      have hE := HL.out.2.2.2
      have hm : e.p ∈ pl M := gL_mem (lose_n r) (HR.out.1.2.2.1 ▸ List.mem_map.2 ⟨e, he, rfl⟩) hlx
      have ho := HL.out.1.one _ hm
      obtain ⟨h1, k1⟩ := HR.out.1.next hg1 hs1
      obtain ⟨c0, hrs⟩ := h1.has he
      obtain ⟨-, f0, -⟩ := h1.heldCells he
      obtain ⟨q0, q1⟩ := h1.cells
      have hne := h1.bNe he
      have x1 := HX.out w1 k1
      have p0 : w1.cell? ⟨w.heap.size, 0, none⟩ = some (.string r.lo) := x1.cell 0
      have p1 : w1.cell? ⟨w.heap.size, 1, none⟩ = some (.string r.hi) := x1.cell 1
      have hri : e.b ≠ wa.heap.size := by
        obtain ⟨a, s, x, y, hr⟩ := ranges_iter hrg1
        intro e0
        have hh : w1.heap[e.b]? = some _ := h1.held e he
        rw [e0, hr] at hh
        cases hh
      have HMi := Lib.hid (fun wx (hx : Below w1.heap.size w1 wx) => minus_any e.A e.p.L.length e.c w1.heap.size 200 e.p.L r wx (hrs.belowOf hx (Nat.le_refl _)) hx.size (by have := ho.len; have := HL.out.2.1; omega) ho.small (by omega) HL.out.2.2.1)
      unfold ragg at HMi
      have HB : Hid (∀ wB, Below w1.heap.size w1 wB → wB.cell? ⟨e.b, 0, none⟩ = some (.slice e.A e.p.L.length e.c) ∧ wB.frozen? ⟨e.b, 0, none⟩ = false) := Lib.hid fun wB hb => ⟨((h1.below hb).has he).1, ((h1.below hb).heldCells he).2.1⟩
      have Hfin : Hid (∀ wB (A : Option Addr) (m : List Rg) (c : Nat) (W3 : World), Below w1.heap.size w1 wB → OwnRgs wB w1.heap.size (.slice A m.length c) m → wB.setCell ⟨e.b, 0, none⟩ (.slice A m.length c) = W3 →
          (W3.cell? ⟨e.b, 0, none⟩ = some (.slice A m.length c) ∧ W3.cell? ⟨sb, 1, none⟩ = some (.map (some mb))) ∧ LkAt W3 (addF (addF F wa w1) w1 W3) sb mb lease (updM ⟨⟨e.p.n, m, e.p.left⟩, e.b, A, c⟩ M1) ∧ KeptF (addF F wa w1) w1 W3 ∧
          W3.ranges Try.prog 3 Rn mb wa.heap.size M.length (lmap M1) (fun z => left z && !z.sameKey (.int .i64 e.p.n)) cnt1) := Lib.hid (by
        intro wB A m c W3 hb om h3
        obtain ⟨a1, a2⟩ := h1.setRow he hb.os hb.tape hb.output hb.size (fun i hi _ => hb.block i hi) om h3
        refine ⟨⟨(a1.held ⟨⟨e.p.n, m, e.p.left⟩, e.b, A, c⟩ (List.mem_map.2 ⟨e, he, by simp⟩)).cell 0, a1.cells.2⟩, a1, a2, ?_⟩
        have r1 := hrg1.kept (row := none) ⟨hb.os, hb.tape, hb.output, hb.size, fun i hi _ => hb.block i hi⟩ (by simp) (by simp)
        have g2 : wB.grownBy W3 (some e.b) := h3 ▸ ⟨rfl, rfl, rfl, by simp, fun k _ hk => Below.heap_setCell wB ⟨e.b, 0, none⟩ _ k (fun e0 => hk (by rw [e0]))⟩
        exact r1.kept g2 (fun e0 => hne.2.1 (by injection e0 with e0; exact e0.symm)) (fun e0 => hri (by injection e0 with e0; exact e0.symm)))
      have H1 := Lib.hid (And.intro k1 h1.rise)
      have HP := Lib.hid (And.intro hE (And.intro HR.out.1.2.2.1 (And.intro HR.out.2 hm)))
      have Hcnt : Hid (wr.rangeLeft mb wa.heap.size = cnt) := Lib.hid hrg.left_eq
      clear h1 k1 hne hri hm ho hE hrs hrg hg1 hs1 HR hrg1 H0 x1
      go_wp2
      go_region_law
        (first
          | (go_simp; refine (HMi.out _ (Below.refl _ _).drew).mono ?_; rintro ee wB ⟨m, vB, rfl, om, fm, lm, sm, bm⟩; obtain ⟨AB, cB, rfl, -, -, -⟩ := om.slice; have gB : Below w1.heap.size w1 wB := (Below.refl w1.heap.size w1).drew.trans bm; have fB := (HB.out _ gB).2; have cB9 := (HB.out _ gB).1))
      all_goals
        obtain ⟨W3, hW3⟩ : ∃ W3, wB.setCell ⟨e.b, 0, none⟩ (.slice AB m.length cB) = W3 := ⟨_, rfl⟩
        obtain ⟨⟨z0, z1⟩, hP⟩ := Hfin.out wB AB m cB W3 gB om hW3
        have hmT : minusT e.p.L r = m := theForm_eq fm
        have hFo := HP.out.2.2.1.next HP.out.1 HP.out.2.2.2 fm sm
        have H2 := Lib.hid hP
        have HF := Lib.hid hFo
        have HmT := Lib.hid hmT
        have hrg2 := hP.2.2
        clear hP gB om fm lm sm bm fB cB9 f0 c0 p0 p1 q0 q1 hmT hFo
        rw [hW3]
        cases m with
        | nil =>
          go_wp2_with (first
            | (at_delete; refine wpList_delete_ranges _ rfl _ _ 73 3 rfl 79 intKeyed Try.underlying73 _ mb wa.heap.size M.length _ _ _ rfl hrg2 _ _ rfl (keyOf_int_mk Try.underlying3 hwx) ?_; intro w3 cnt2 hrg3 hle hturn; go_frame)
            | go_in)
          rw [strike_twice] at hrg3
          have HE := Lib.hid (And.intro (TickR.del HP.out.1 (lose_n r) HP.out.2.1 H1.out.1 he hlx (by unfold lose1; rw [HmT.out, if_pos rfl]) (x := ⟨⟨e.p.n, [], e.p.left⟩, e.b, AB, cB⟩) rfl rfl H1.out.2 H2.out.1 H2.out.2.1 hrg3 hturn (mapTurned_size hturn)) HF.out)
          go_roundw
          case rel => exact ⟨_, _, _, HE⟩
          case measure => rw [HE.out.1.1.left_eq, Hcnt.out]; omega
        | cons y m =>
          have HE := Lib.hid (And.intro (TickR.upd HP.out.1 (lose_n r) HP.out.2.1 H1.out.1 he hlx (by unfold lose1; rw [HmT.out, if_neg (by simp)]) (x := ⟨⟨e.p.n, y :: m, e.p.left⟩, e.b, AB, cB⟩) rfl H1.out.2 H2.out.1 H2.out.2.1 hrg2) HF.out)
          have hz : (((y :: m).length : Int) == 0) = false := by simp; omega
          go_wp2
          go_roundw
          case rel => exact ⟨_, _, _, HE⟩
          case measure => rw [HE.out.1.1.left_eq, Hcnt.out]; omega
theorem lockLose_any (h : LkAt w F sb mb lease M) (hI : TInv lease N (pl M)) (hN : N ≤ 10000) (r : Rg) (hr : r.lo.size ≤ 200 ∧ r.hi.size ≤ 200) : Calls Try.prog 42 #[.pointer (some ⟨sb, 0, none⟩), ragg r] w
    (LosePost w F sb mb lease r N (pl M)) := (lockLose2_any h hI hN r hr).mono fun _ _ h => h.1
end
end Go.Proofs.Ytijcaefpainhcaa

/- Package lock: Take. Condition: the table is in memory, its locks as they may be. -/
import Derived.Test.YtijcaefpainhcaaLkF
import Derived.Test.YtijcaefpainhcaaRngK
import Derived.Deep.RegionLaw
namespace Go.Proofs.Ytijcaefpainhcaa
open Go.RowKit Go.Maps

section
variable {F : Nat → Prop} {w w1 : World} {sb mb : Nat} {lease b : Int} {M : List LE} {N : Nat}
theorem grown_of {a c : World} (h : Below a.heap.size a c) {g : Option Nat} : a.grownBy c g := ⟨h.os, h.tape, h.output, h.size, fun i hi _ => h.block i hi⟩
theorem grown_then {a b c : World} (h : Below a.heap.size a b) {g : Option Nat} (k : b.grownBy c g) : a.grownBy c g := (grown_of h).andThen k fun _ hj => .inr hj
theorem grown_last {a b c : World} {g : Option Nat} (h : a.grownBy b g) (k : Below b.heap.size b c) : a.grownBy c g := h.andThen (row' := none) (grown_of k) fun j hj => by cases hj
/-- what is left of a table when a lock's row and its ticks were stored -/
theorem take_tail (h : LkAt w F sb mb lease M) {e : LE} (he : e ∈ M) {wB : World} (g : w.grownBy wB e.row.ownBlock) {A : Option Addr} {m : List Rg} {c : Nat} (ho : OwnRgs wB w.heap.size (.slice A m.length c) m) {W3 W4 : World} (z : Int)
    (h3 : wB.setCell ⟨e.b, 0, none⟩ (.slice A m.length c) = W3) (h4 : W3.setCell ⟨e.b, 1, none⟩ (.int .i64 z) = W4) :
    (W3.cell? ⟨sb, 0, none⟩ = some (.int .i64 lease) ∧ W3.frozen? ⟨e.b, 1, none⟩ = false ∧ W3.cell? ⟨e.b, 1, none⟩ = some (.int .i64 e.p.left)) ∧ ∃ M', LkAt W4 (addF F w W4) sb mb lease M' ∧ pl M' = updL ⟨e.p.n, m, z⟩ (pl M) ∧ KeptF F w W4 := by
  obtain ⟨a3, k3⟩ := h.setRow he g.os g.tape g.output g.size (fun i hi hne => g.block i hi (fun e1 => hne e1.symm)) ho h3
  have hm : (⟨⟨e.p.n, m, e.p.left⟩, e.b, A, c⟩ : LE) ∈ updM ⟨⟨e.p.n, m, e.p.left⟩, e.b, A, c⟩ M := List.mem_map.2 ⟨e, he, by simp⟩
  obtain ⟨a4, k4⟩ := a3.setLeft hm z h4
  have hs : W4.heap.size = W3.heap.size := by rw [← h4]; simp
  obtain ⟨⟨-, c1⟩, -, f1⟩ := a3.heldCells hm
  refine ⟨⟨a3.cells.1, f1, c1⟩, _, addF_keep (F := F) (w := w) hs ▸ a4, ?_, k3.trans k4⟩
  rw [pl_upd, pl_upd]
  unfold updL
  rw [List.map_map]
  refine List.map_congr_left fun p _ => ?_
  simp only [Function.comp]
  split
  · simp
  · rfl
def TakePost (w : World) (F : Nat → Prop) (sb mb : Nat) (lease : Int) (k : Int) (r : Rg) (N : Nat) (E : List TL) (e : Ending) (w' : World) : Prop :=
  e = .returned (.int .i64 (takeE k r)) ∧ TInv lease (N + 1) (takeT lease k r E) ∧ ∃ M', LkAt w' (addF F w w') sb mb lease M' ∧ pl M' = takeT lease k r E ∧ KeptF F w w'
theorem takeT_has {k : Int} {r : Rg} {E : List TL} (hk : ¬ k < 1) (hr : ¬ emptyR r) {m : List Rg} (hm : IsForm m (inS (rangesT k E ++ [r]))) : takeT lease k r E = updL ⟨k, m, lease⟩ (hasL k E) ∧ takeE k r = 0 := by
  unfold takeT takeE
  have hc : ¬ (k < 1 ∨ emptyR r) := fun h => h.elim hk hr
  rw [if_neg hc, if_neg hc]
  have : leastT (rangesT k E ++ [r]) = m := theForm_eq hm
  rw [this]
  exact ⟨rfl, rfl⟩
set_option maxRecDepth 100000 in
set_option maxHeartbeats 6400000 in
theorem lockTake_any (h : LkAt w F sb mb lease M) (hI : TInv lease N (pl M)) (hl1 : 1 ≤ lease) (hN : N ≤ 10000) (k : Int) (hk : (Lit.int .i64 k).wf = true) (r : Rg) (hr : r.lo.size ≤ 200 ∧ r.hi.size ≤ 200) : Calls Try.prog 39 #[.pointer (some ⟨sb, 0, none⟩), .int .i64 k, ragg r] w
    (TakePost w F sb mb lease k r N (pl M)) := by
  obtain ⟨w1, hw1⟩ : ∃ w1, w.alloc (.cells #[.string r.lo, .string r.hi] 23) = w1 := ⟨_, rfl⟩
  have b1 : Below w.heap.size w w1 := hw1 ▸ below_box _
  have x1 : Box w1 w.heap.size 23 #[.string r.lo, .string r.hi] := hw1 ▸ Box.made _ _ _
  have h1 := h.below b1
  have p0 : w1.cell? ⟨w.heap.size, 0, none⟩ = some (.string r.lo) := x1.cell 0
  have p1 : w1.cell? ⟨w.heap.size, 1, none⟩ = some (.string r.hi) := x1.cell 1
  have hno : ∀ {w' : World}, (k < 1 ∨ emptyR r) → Below w.heap.size w w' → TakePost w F sb mb lease k r N (pl M) (.returned (.int .i64 1)) w' := by
    intro w' hc hb
    have e1 : takeT lease k r (pl M) = pl M := if_pos hc
    have e2 : takeE k r = 1 := if_pos hc
    refine ⟨by rw [e2], by rw [e1]; exact hI.more (Nat.le_succ _), M, (h.below hb).add, e1.symm, KeptF.of hb⟩
  have HNo : Hid (∀ w', (k < 1 ∨ emptyR r) → Below w.heap.size w w' → TakePost w F sb mb lease k r N (pl M) (.returned (.int .i64 1)) w') := Lib.hid (fun w' hc hb => hno hc hb)
  by_cases hk1 : k < 1
  · have HB := Lib.hid (And.intro hk1 b1)
    unfold ragg
    clear h h1 hI hno b1 x1 hr
    go_enter Try.func39, Try.ntmps39
    go_wp2
    go_ret
    exact HNo.out _ (.inl HB.out.1) HB.out.2
  · have hk2 : decide (k < 1) = false := decide_eq_false hk1
    have Hem := Lib.hid (empty_any r w1)
    obtain ⟨d, hd⟩ : ∃ d, decide (emptyR r) = d := ⟨_, rfl⟩
    rw [hd] at Hem
    have Hd := Lib.hid hd
    clear hd
    cases d with
    | true =>
      have HB := Lib.hid b1
      unfold ragg at Hem ⊢
      clear h h1 hI hno b1 x1 hr
      go_enter Try.func39, Try.ntmps39
      go_wp2_with fail
      refine Hem.out.mono ?_
      rintro ee w2 ⟨rfl, b2⟩
      have HB2 := Lib.hid (HB.out.trans (b2.mono HB.out.size))
      clear b2
      go_wp2
      go_ret
      exact HNo.out _ (.inr (of_decide_eq_true Hd.out)) HB2.out
    | false =>
      have hre : ¬ emptyR r := of_decide_eq_false Hd.out
      cases hg : getM k M with
      | some e =>
        obtain ⟨he, hn⟩ := getM_some hg
        have ho := hI.one e.p (List.mem_map.2 ⟨e, he, rfl⟩)
        obtain ⟨⟨n, L, lf⟩, eb, A, c⟩ := e
        simp only at hn ho
        subst hn
        have Hr := Lib.hid hr
        have HLt := Lib.hid h.lt
        have HI := Lib.hid (And.intro hI (And.intro hl1 (And.intro hk1 hre)))
        have Hg := Lib.hid hg
        have HL := Lib.hid ho
        have HL1 : Hid (L.length ≤ 10000) := Lib.hid (Nat.le_trans ho.len hN)
        have H1 := Lib.hid (And.intro h1 (And.intro he (And.intro x1 b1)))
        unfold ragg at Hem ⊢
        clear h h1 hI hno b1 x1 hr hg he ho hre
        go_enter Try.func39, Try.ntmps39
        go_wp2_with fail
        refine Hem.out.mono ?_
        rintro ee w2 ⟨rfl, b2⟩
        have h2 := H1.out.1.below b2
        obtain ⟨q0, q1⟩ := h2.cells
        have hl := (h2.look n hk).2 _ Hg.out
        obtain ⟨c0, -⟩ := h2.has H1.out.2.1
        have B2 := Lib.hid (H1.out.2.2.2.trans (b2.mono H1.out.2.2.2.size))
        have x2 := H1.out.2.2.1.below b2 H1.out.2.2.1.lt
        have p0 : w2.cell? ⟨w.heap.size, 0, none⟩ = some (.string r.lo) := x2.cell 0
        have p1 : w2.cell? ⟨w.heap.size, 1, none⟩ = some (.string r.hi) := x2.cell 1
        have H2 := Lib.hid (And.intro h2 x2)
        clear h2 x2 b2
        have HP2 : Hid (pl M = hasL n (pl M) ∧ rangesT n (pl M) = L) := Lib.hid (by
          unfold hasL rangesT
          rw [pl_get, Hg.out]
          exact ⟨rfl, rfl⟩)
        have RBN : Hid ((Value.slice A L.length c).ownBlock ≠ some w.heap.size) := Lib.hid (fun e0 => by
          obtain ⟨cs, hcs⟩ := ownL_type (H2.out.1.rows _ H1.out.2.1) e0
          have := H1.out.1.lt _ ((H1.out.1.eF _ H1.out.2.1).2 _ e0)
          have h9 := HLt.out _ ((H1.out.1.eF _ H1.out.2.1).2 _ e0)
          omega)
        have H2 : Hid (LkAt w2 (addF F w w2) sb mb lease M ∧ (⟨⟨n, L, lf⟩, eb, A, c⟩ : LE) ∈ M ∧ Box w2 w.heap.size 23 #[.string r.lo, .string r.hi] ∧ KeptF F w w2) := Lib.hid ⟨H2.out.1.add, H1.out.2.1, H2.out.2, KeptF.of B2.out⟩
        have HSm : Hid (Small 200 L) := Lib.hid HL.out.small
        simp only at c0 hl
        clear H1 HL
        go_wp2
        have Hfin : Hid (∀ wB A' m c' W3 W4, w2.grownBy wB (Value.slice A L.length c).ownBlock → OwnRgs wB w2.heap.size (.slice A' m.length c') m → IsForm m (inS (L ++ [r])) → Small 200 m → wB.setCell ⟨eb, 0, none⟩ (.slice A' m.length c') = W3 → W3.setCell ⟨eb, 1, none⟩ (.int .i64 lease) = W4 →
            (W3.cell? ⟨sb, 0, none⟩ = some (.int .i64 lease) ∧ W3.frozen? ⟨eb, 1, none⟩ = false ∧ W3.cell? ⟨eb, 1, none⟩ = some (.int .i64 lf)) ∧ TakePost w F sb mb lease n r N (pl M) (.returned (.int .i64 0)) W4) := Lib.hid (by
          intro wB A' m c' W3 W4 g om fm sm h3 h4
          obtain ⟨hc, M', a1, a2, a3⟩ := take_tail H2.out.1 H2.out.2.1 g om lease h3 h4
          have fm2 : IsForm m (inS (rangesT n (pl M) ++ [r])) := by rw [HP2.out.2]; exact fm
          obtain ⟨e1, e2⟩ := takeT_has (lease := lease) (by have := HI.out.2.2.1; omega) HI.out.2.2.2 fm2
          refine ⟨hc, by rw [e2], HI.out.1.take ⟨HI.out.2.1, Int.le_refl _⟩ fm2 sm, M', addF_two H2.out.2.2.2.size a3.size ▸ a1, ?_, H2.out.2.2.2.trans a3⟩
          rw [a2, e1, ← HP2.out.1])
        have bA : Below w2.heap.size w2 (w2.drew.alloc (.cells #[.string r.lo, .string r.hi] 23)) := (Below.refl _ w2).drew.alloc (Nat.le_refl _) _
        have Ho : Hid (w2.ownsRow 0 23 2 (.slice A L.length c) L.length (rgCells (L))) := Lib.hid (H2.out.1.rows _ H2.out.2.1)
        have HS : Hid (∀ wx, w2.grownBy wx (Value.slice A L.length c).ownBlock → (wx.cell? ⟨w.heap.size, 0, none⟩ = some (.string r.lo) ∧ wx.cell? ⟨w.heap.size, 1, none⟩ = some (.string r.hi) ∧ wx.cell? ⟨eb, 0, none⟩ = some (.slice A L.length c)) ∧ wx.frozen? ⟨eb, 0, none⟩ = false) := Lib.hid fun wx hx => by
          have y1 : Box wx eb 81 #[.slice A L.length c, .int .i64 lf] := (H2.out.1.held _ H2.out.2.1).grown hx (fun e0 => ((H2.out.1.bNe H2.out.2.1).2.2 _ e0.symm).2.2 _ H2.out.2.1 rfl)
          have y2 : Box wx w.heap.size 23 #[.string r.lo, .string r.hi] := H2.out.2.2.1.grown hx (fun e0 => RBN.out e0.symm)
          exact ⟨⟨y2.cell 0, y2.cell 1, y1.cell 0⟩, y1.frozen 0⟩
        have HLe : Hid (∀ AA cA wA, wA.ownsRow 0 23 2 (.slice AA (L.length + 1) cA) (L.length + 1) (rgCells (L) ++ rgCells [r]) → Calls Try.prog 19 #[.slice AA (L.length + 1) cA] wA (LeastPost 200 (L.length + 1) (inS (L ++ [r])) wA)) := Lib.hid fun AA cA wA oA =>
          least_any AA _ cA wA.heap.size 200 (L ++ [r]) wA (own_all oA rfl) (Nat.le_refl _) (by have := HL1.out; omega) (fun x hx => by
            rcases List.mem_append.1 hx with hx | hx
            · exact HSm.out x hx
            · simp at hx; subst hx; exact Hr.out) (by omega)
        have hrb : ∀ {wx : World} {X : Prop}, (wx.cell? ⟨w.heap.size, 0, none⟩ = some (.string r.lo) ∧ wx.cell? ⟨w.heap.size, 1, none⟩ = some (.string r.hi) ∧ X) → wx.cell? ⟨w.heap.size, 0, none⟩ = some (.string r.lo) ∧ wx.cell? ⟨w.heap.size, 1, none⟩ = some (.string r.hi) := fun h => ⟨h.1, h.2.1⟩
        have HX3 : Hid (∀ (wx : World) (v : Value), w2.grownBy wx (Value.slice A L.length c).ownBlock → (wx.setCell ⟨eb, 0, none⟩ v).cell? ⟨w.heap.size, 0, none⟩ = some (.string r.lo) ∧ (wx.setCell ⟨eb, 0, none⟩ v).cell? ⟨w.heap.size, 1, none⟩ = some (.string r.hi)) := Lib.hid fun wx v hx => by
          have y2 : Box wx w.heap.size 23 #[.string r.lo, .string r.hi] := H2.out.2.2.1.grown hx (fun e0 => RBN.out e0.symm)
          have hne : w.heap.size ≠ eb := types_ne H2.out.2.2.1 (H2.out.1.held _ H2.out.2.1) typesL.2.1
          have y3 : Box (wx.setCell ⟨eb, 0, none⟩ v) w.heap.size 23 #[.string r.lo, .string r.hi] := (Below.heap_setCell wx ⟨eb, 0, none⟩ v _ hne).trans y2
          exact ⟨y3.cell 0, y3.cell 1⟩
        have f0 : w2.frozen? ⟨eb, 0, none⟩ = false := (H2.out.1.heldCells H2.out.2.1).2.1
        have c9 : (w2.alloc (.cells #[.string r.lo, .string r.hi] 23)).cell? ⟨eb, 0, none⟩ = some (.slice A L.length c) := (HS.out _ (grown_of ((Below.refl _ w2).alloc (Nat.le_refl _) _))).1.2.2
        go_region_law
          (first
            | (refine step_append_hasN (by rfl) _ _ _ (by rfl) 23 rg_elem (by omega) Try.underlying26 (by rfl) (own_belowN Ho.out bA) (by rfl) (rg_lit _ r) (rgCells_one [r]) (by have := HL1.out; simp only [maxLen]; omega) (by have := HL1.out; omega) (Nat.zero_le _) ?_; intro vA wA oA gA zA; obtain ⟨AA, cA, rfl, -, -, -⟩ := own_sliceN oA; have gA2 := grown_then bA gA; have SA := Lib.hid (hrb (HS.out _ gA2).1))
            | (go_simp; refine (HLe.out AA cA wA oA).mono ?_; rintro ee wB ⟨m, vB, rfl, om, fm, lm, sm, bm⟩; obtain ⟨AB, cB, rfl, -, -, -⟩ := om.slice; have gB := grown_last gA2 bm; have SB := Lib.hid (hrb (HS.out _ gB).1); have HSB := Lib.hid (HX3.out _ (.slice AB m.length cB) gB); have fB := (HS.out _ gB).2; have cB9 := (HS.out _ gB).1.2.2))
        all_goals
          obtain ⟨W3, hW3⟩ : ∃ W3, wB.setCell ⟨eb, 0, none⟩ (.slice AB m.length cB) = W3 := ⟨_, rfl⟩
          obtain ⟨W4, hW4⟩ : ∃ W4, W3.setCell ⟨eb, 1, none⟩ (.int .i64 lease) = W4 := ⟨_, rfl⟩
          obtain ⟨⟨z0, f1, z1⟩, hP⟩ := Hfin.out wB AB m cB W3 W4 gB (own_baseN om gA2.size) fm sm hW3 hW4
          have HP := Lib.hid hP
          clear hP gB gA gA2 oA om fm lm sm bm SA SB HSB fB f0 zA bA c9 cB9
          rw [hW3]
          go_wp2
          go_ret
          exact HP.out
      | none =>
        have Hr := Lib.hid hr
        have HLt := Lib.hid h.lt
        have HI := Lib.hid (And.intro hI (And.intro hl1 (And.intro (Int.not_lt.1 hk1) hre)))
        have Hg := Lib.hid hg
        have HL1 : Hid (0 ≤ 10000) := Lib.hid (Nat.zero_le _)
        have H1 := Lib.hid (And.intro h1 (And.intro x1 b1))
        have HML : Hid (M.length ≤ 10000) := Lib.hid (by have := hI.len; rw [pl_len] at this; omega)
        have Hkey := Lib.hid (Maps.keyOf_int_mk (P := Try.prog) Try.underlying3 hk)
        unfold ragg at Hem ⊢
        clear h h1 hI hno b1 x1 hr hg hre
        go_enter Try.func39, Try.ntmps39
        go_wp2_with fail
        refine Hem.out.mono ?_
        rintro ee wE ⟨rfl, b2⟩
        have h2 := H1.out.1.below b2
        obtain ⟨q0, q1⟩ := h2.cells
        have hl := (h2.look k hk).1 Hg.out
        have B2 := Lib.hid (H1.out.2.2.trans (b2.mono H1.out.2.2.size))
        have x2 := H1.out.2.1.below b2 H1.out.2.1.lt
        obtain ⟨w3, hw3⟩ : ∃ w3, wE.alloc (.cells #[.slice none 0 0, .int .i64 0] 81) = w3 := ⟨_, rfl⟩
        have b3 : Below wE.heap.size wE w3 := hw3 ▸ below_box _
        have y3 : Box w3 wE.heap.size 81 #[.slice none 0 0, .int .i64 0] := hw3 ▸ Box.made _ _ _
        have h3 : LkAt w3 (addF F wE w3) sb mb lease M := (h2.below b3).add
        have q3 : w3.cell? ⟨sb, 1, none⟩ = some (.map (some mb)) := h3.cells.2
        obtain ⟨w2, hrM, mM, tM⟩ := h3.own.store intKeyed Try.underlying73 (by have := HML.out; simp only [maxLen]; omega) Hkey.out (R := Rn) (val := .pointer (some ⟨wE.heap.size, 0, none⟩)) (d := .held (.pointer (some ⟨wE.heap.size, 0, none⟩))) (ps := []) rfl
        have hrN : (Instr.mapUpdate 73 (.map (some mb)) (.int .i64 k) (.pointer (some ⟨wE.heap.size, 0, none⟩))).run Try.prog w3 = .ok () w2 := hrM
        obtain ⟨h4, k4⟩ := h3.ins Hg.out (.inr ⟨Nat.le_refl _, y3.lt⟩) y3 (fun e he e0 => by have := h2.lt _ (h2.eF e he).1; omega) mM tM
        have k5 : KeptF F w w2 := by
          have a1 := (KeptF.of (F := F) B2.out)
          have a2 : KeptF (addF F w wE) wE w3 := KeptF.of b3
          have a3 := a1.trans a2
          rw [show addF F wE w3 = addF F wE w3 from rfl] at k4
          exact ⟨k4.os.trans a3.os, k4.tape.trans a3.tape, k4.output.trans a3.output, Nat.le_trans a3.size k4.size, fun i hi hF => (k4.block i (Nat.lt_of_lt_of_le hi a3.size) (fun e0 => e0.elim hF (fun e0 => by have := B2.out.size; omega))).trans (a3.block i hi hF)⟩
        have hs4 : w2.heap.size = w3.heap.size := mapTurned_size tM
        have hs3 : wE.heap.size ≤ w3.heap.size := b3.size
        have h5 : LkAt w2 (addF F w w2) sb mb lease (insM ⟨⟨k, [], 0⟩, wE.heap.size, none, 0⟩ M) := h4.mono (fun i hi => hi.elim (fun h => .inl h) (fun h => .inr ⟨by have := B2.out.size; omega, by omega⟩)) (fun i hi => hi.elim (fun h => by have := HLt.out i h; have := B2.out.size; omega) (fun h => h.2))
        have x5 : Box w2 w.heap.size 23 #[.string r.lo, .string r.hi] := by
          have x3 := x2.below b3 x2.lt
          obtain ⟨es, c, hm⟩ := mapL_block h3.own
          exact (tM.grown.block w.heap.size x3.lt (fun e0 => map_ne x3 hm (by injection e0))).trans x3
        have p0 : w2.cell? ⟨w.heap.size, 0, none⟩ = some (.string r.lo) := x5.cell 0
        have p1 : w2.cell? ⟨w.heap.size, 1, none⟩ = some (.string r.hi) := x5.cell 1
        have H2 : Hid (LkAt w2 (addF F w w2) sb mb lease (insM ⟨⟨k, [], 0⟩, wE.heap.size, none, 0⟩ M) ∧ (⟨⟨k, [], 0⟩, wE.heap.size, none, 0⟩ : LE) ∈ insM ⟨⟨k, [], 0⟩, wE.heap.size, none, 0⟩ M ∧ Box w2 w.heap.size 23 #[.string r.lo, .string r.hi] ∧ KeptF F w w2) := Lib.hid ⟨h5, mem_insM.2 (.inl rfl), x5, k5⟩
        have HP2 : Hid (pl (insM ⟨⟨k, [], 0⟩, wE.heap.size, none, 0⟩ M) = hasL k (pl M) ∧ rangesT k (pl M) = []) := Lib.hid (by
          unfold hasL rangesT
          rw [pl_get, Hg.out]
          exact ⟨pl_ins _ _, rfl⟩)
        have RBN : Hid ((Value.slice none 0 0).ownBlock ≠ some w.heap.size) := Lib.hid (fun e0 => by cases e0)
        have HSm : Hid (Small 200 ([] : List Rg)) := Lib.hid (fun x hx => by cases hx)
        have c0 : w2.cell? ⟨wE.heap.size, 0, none⟩ = some (.slice none 0 0) := (h5.held _ (mem_insM.2 (.inl rfl))).cell 0
        clear h2 h3 h4 h5 k4 k5 x5 x2 b2 b3 y3 mM tM hs4 hs3 Hkey H1 hrM
        go_wp2
        have Hfin : Hid (∀ wB A' m c' W3 W4, w2.grownBy wB (Value.slice none 0 0).ownBlock → OwnRgs wB w2.heap.size (.slice A' m.length c') m → IsForm m (inS (([] : List Rg) ++ [r])) → Small 200 m → wB.setCell ⟨wE.heap.size, 0, none⟩ (.slice A' m.length c') = W3 → W3.setCell ⟨wE.heap.size, 1, none⟩ (.int .i64 lease) = W4 →
            (W3.cell? ⟨sb, 0, none⟩ = some (.int .i64 lease) ∧ W3.frozen? ⟨wE.heap.size, 1, none⟩ = false ∧ W3.cell? ⟨wE.heap.size, 1, none⟩ = some (.int .i64 0)) ∧ TakePost w F sb mb lease k r N (pl M) (.returned (.int .i64 0)) W4) := Lib.hid (by
          intro wB A' m c' W3 W4 g om fm sm h3 h4
          obtain ⟨hc, M', a1, a2, a3⟩ := take_tail H2.out.1 H2.out.2.1 g om lease h3 h4
          have fm2 : IsForm m (inS (rangesT k (pl M) ++ [r])) := by rw [HP2.out.2]; exact fm
          obtain ⟨e1, e2⟩ := takeT_has (lease := lease) (by have := HI.out.2.2.1; omega) HI.out.2.2.2 fm2
          refine ⟨hc, by rw [e2], HI.out.1.take ⟨HI.out.2.1, Int.le_refl _⟩ fm2 sm, M', addF_two H2.out.2.2.2.size a3.size ▸ a1, ?_, H2.out.2.2.2.trans a3⟩
          rw [a2, e1, ← HP2.out.1])
        have bA : Below w2.heap.size w2 (w2.drew.alloc (.cells #[.string r.lo, .string r.hi] 23)) := (Below.refl _ w2).drew.alloc (Nat.le_refl _) _
        have Ho : Hid (w2.ownsRow 0 23 2 (.slice none 0 0) 0 (rgCells (([] : List Rg)))) := Lib.hid (H2.out.1.rows _ H2.out.2.1)
        have HS : Hid (∀ wx, w2.grownBy wx (Value.slice none 0 0).ownBlock → (wx.cell? ⟨w.heap.size, 0, none⟩ = some (.string r.lo) ∧ wx.cell? ⟨w.heap.size, 1, none⟩ = some (.string r.hi) ∧ wx.cell? ⟨wE.heap.size, 0, none⟩ = some (.slice none 0 0)) ∧ wx.frozen? ⟨wE.heap.size, 0, none⟩ = false) := Lib.hid fun wx hx => by
          have y1 : Box wx wE.heap.size 81 #[.slice none 0 0, .int .i64 0] := (H2.out.1.held _ H2.out.2.1).grown hx (fun e0 => ((H2.out.1.bNe H2.out.2.1).2.2 _ e0.symm).2.2 _ H2.out.2.1 rfl)
          have y2 : Box wx w.heap.size 23 #[.string r.lo, .string r.hi] := H2.out.2.2.1.grown hx (fun e0 => RBN.out e0.symm)
          exact ⟨⟨y2.cell 0, y2.cell 1, y1.cell 0⟩, y1.frozen 0⟩
        have HLe : Hid (∀ AA cA wA, wA.ownsRow 0 23 2 (.slice AA (0 + 1) cA) (0 + 1) (rgCells (([] : List Rg)) ++ rgCells [r]) → Calls Try.prog 19 #[.slice AA (0 + 1) cA] wA (LeastPost 200 (0 + 1) (inS (([] : List Rg) ++ [r])) wA)) := Lib.hid fun AA cA wA oA =>
          least_any AA _ cA wA.heap.size 200 (([] : List Rg) ++ [r]) wA (own_all oA rfl) (Nat.le_refl _) (by have := HL1.out; omega) (fun x hx => by
            rcases List.mem_append.1 hx with hx | hx
            · exact HSm.out x hx
            · simp at hx; subst hx; exact Hr.out) (by omega)
        have hrb : ∀ {wx : World} {X : Prop}, (wx.cell? ⟨w.heap.size, 0, none⟩ = some (.string r.lo) ∧ wx.cell? ⟨w.heap.size, 1, none⟩ = some (.string r.hi) ∧ X) → wx.cell? ⟨w.heap.size, 0, none⟩ = some (.string r.lo) ∧ wx.cell? ⟨w.heap.size, 1, none⟩ = some (.string r.hi) := fun h => ⟨h.1, h.2.1⟩
        have HX3 : Hid (∀ (wx : World) (v : Value), w2.grownBy wx (Value.slice none 0 0).ownBlock → (wx.setCell ⟨wE.heap.size, 0, none⟩ v).cell? ⟨w.heap.size, 0, none⟩ = some (.string r.lo) ∧ (wx.setCell ⟨wE.heap.size, 0, none⟩ v).cell? ⟨w.heap.size, 1, none⟩ = some (.string r.hi)) := Lib.hid fun wx v hx => by
          have y2 : Box wx w.heap.size 23 #[.string r.lo, .string r.hi] := H2.out.2.2.1.grown hx (fun e0 => RBN.out e0.symm)
          have hne : w.heap.size ≠ wE.heap.size := types_ne H2.out.2.2.1 (H2.out.1.held _ H2.out.2.1) typesL.2.1
          have y3 : Box (wx.setCell ⟨wE.heap.size, 0, none⟩ v) w.heap.size 23 #[.string r.lo, .string r.hi] := (Below.heap_setCell wx ⟨wE.heap.size, 0, none⟩ v _ hne).trans y2
          exact ⟨y3.cell 0, y3.cell 1⟩
        have f0 : w2.frozen? ⟨wE.heap.size, 0, none⟩ = false := (H2.out.1.heldCells H2.out.2.1).2.1
        have c9 : (w2.alloc (.cells #[.string r.lo, .string r.hi] 23)).cell? ⟨wE.heap.size, 0, none⟩ = some (.slice none 0 0) := (HS.out _ (grown_of ((Below.refl _ w2).alloc (Nat.le_refl _) _))).1.2.2
        go_region_law
          (first
            | (refine step_append_hasN (by rfl) _ _ _ (by rfl) 23 rg_elem (by omega) Try.underlying26 (by rfl) (own_belowN Ho.out bA) (by rfl) (rg_lit _ r) (rgCells_one [r]) (by have := HL1.out; simp only [maxLen]; omega) (by have := HL1.out; omega) (Nat.zero_le _) ?_; intro vA wA oA gA zA; obtain ⟨AA, cA, rfl, -, -, -⟩ := own_sliceN oA; have gA2 := grown_then bA gA; have SA := Lib.hid (hrb (HS.out _ gA2).1))
            | (go_simp; refine (HLe.out AA cA wA oA).mono ?_; rintro ee wB ⟨m, vB, rfl, om, fm, lm, sm, bm⟩; obtain ⟨AB, cB, rfl, -, -, -⟩ := om.slice; have gB := grown_last gA2 bm; have SB := Lib.hid (hrb (HS.out _ gB).1); have HSB := Lib.hid (HX3.out _ (.slice AB m.length cB) gB); have fB := (HS.out _ gB).2; have cB9 := (HS.out _ gB).1.2.2))
        all_goals
          obtain ⟨W3, hW3⟩ : ∃ W3, wB.setCell ⟨wE.heap.size, 0, none⟩ (.slice AB m.length cB) = W3 := ⟨_, rfl⟩
          obtain ⟨W4, hW4⟩ : ∃ W4, W3.setCell ⟨wE.heap.size, 1, none⟩ (.int .i64 lease) = W4 := ⟨_, rfl⟩
          obtain ⟨⟨z0, f1, z1⟩, hP⟩ := Hfin.out wB AB m cB W3 W4 gB (own_baseN om gA2.size) fm sm hW3 hW4
          have HP := Lib.hid hP
          clear hP gB gA gA2 oA om fm lm sm bm SA SB HSB fB f0 zA bA c9 cB9
          rw [hW3]
          go_wp2
          go_ret
          exact HP.out
end
end Go.Proofs.Ytijcaefpainhcaa

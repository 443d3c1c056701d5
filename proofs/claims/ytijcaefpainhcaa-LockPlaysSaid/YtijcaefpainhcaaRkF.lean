/- Layer 16, the document's own table: Take. Condition: the table is in memory. -/
import Derived.Test.YtijcaefpainhcaaRkE
import Derived.Deep.RegionHeld3
namespace Go.Proofs.Ytijcaefpainhcaa
open Go.RowKit

section
variable {F : Nat → Prop} {w w' : World} {rb : Nat} {v : Value} {lease now : Int} {R : List RE}
theorem rtake_tail {W2 wB W4 : World} {g n c c' i : Nat} {k : Int} {A : Option Addr} {m : List Rg} {p : RE} (h : RfAt W2 F rb (.slice (some ⟨g, 0, none⟩) n c) lease now R) (hn : R.length = n) (hi : R[i]? = some p) (hb : Below W2.heap.size W2 wB)
    (ho : OwnRgs wB W2.heap.size (.slice A m.length c') m) (hW : ((wB.setCell ⟨g, i * 3, none⟩ (.int .i64 k)).setCell ⟨g, i * 3 + 1, none⟩ (.slice A m.length c')).setCell ⟨g, i * 3 + 2, none⟩ (.int .i64 now) = W4) :
    RfAt W4 (addF F W2 W4) rb (.slice (some ⟨g, 0, none⟩) n c) lease now (R.set i ⟨⟨k, m, now⟩, A, c'⟩) ∧ KeptF F W2 W4 := by
  have h1 : RfAt wB (addF F W2 wB) rb (.slice (some ⟨g, 0, none⟩) n c) lease now R := (h.below hb).add
  obtain ⟨a1, a2⟩ := h1.setE hn hi (q := ⟨⟨k, m, now⟩, A, c'⟩) (own_baseN ho (Nat.zero_le _)) (fun g' hg' => .inr (World.ownsRow.lt ho g' hg')) 0 [.int .i64 k, .slice A m.length c', .int .i64 now] (by simp) rfl (w' := W4) (by rw [← hW]; rfl)
  have hs : W4.heap.size = wB.heap.size := by rw [← hW]; simp
  exact ⟨addF_keep (F := F) (w := W2) hs ▸ a1, (KeptF.of hb).trans a2⟩
/-- where a number that isn't there belongs -/
theorem ins_at {e : TL} : ∀ {E : List TL} {i : Nat}, (∀ p ∈ E.take i, p.n < e.n) → (∀ p, E[i]? = some p → e.n < p.n) → i ≤ E.length → insL e E = E.take i ++ e :: E.drop i
  | [], i, _, _, h => by
    have : i = 0 := by simpa using h
    subst this
    rfl
  | q :: l, 0, _, h2, _ => by
    have := h2 q rfl
    simp [insL, this]
  | q :: l, i + 1, h1, h2, h3 => by
    have hq := h1 q (by simp)
    have ih := ins_at (e := e) (E := l) (i := i) (fun p hp => h1 p (by simp [hp])) (fun p hp => h2 p (by simpa using hp)) (by simpa using h3)
    have : ¬ e.n < q.n := by omega
    simp [insL, this, ih]
/-- a place where nothing stands yet is made -/
theorem rl_ins {R : List RE} {k : Int} {i : Nat} (hg : getL k (rl R) = none) (h1 : ∀ e ∈ R.take i, e.p.n < k) (h2 : ∀ e, R[i]? = some e → ¬ e.p.n < k) (hi : i ≤ R.length) : rl (R.take i ++ [⟨⟨k, [], 0⟩, none, 0⟩] ++ R.drop i) = hasL k (rl R) := by
  unfold hasL
  rw [hg]
  have := ins_at (e := ⟨k, [], 0⟩) (E := rl R) (i := i) (fun p hp => by
    unfold rl at hp
    rw [← List.map_take] at hp
    obtain ⟨q, hq, rfl⟩ := List.mem_map.1 hp
    exact h1 q hq) (fun p hp => by
    unfold rl at hp
    rw [List.getElem?_map] at hp
    cases hx : R[i]? with
    | none => rw [hx] at hp; cases hp
    | some q =>
      rw [hx] at hp
      cases hp
      have h3 := h2 q hx
      have h4 := getL_none hg q.p (List.mem_map.2 ⟨q, List.mem_of_getElem? hx, rfl⟩)
      show k < q.p.n
      omega) (by rw [rl_len]; exact hi)
  rw [this]
  unfold rl
  rw [List.map_append, List.map_append, List.map_take, List.map_drop]
  simp
/-- a table whose lock at place i is the one that a range is added to -/
structure TakeReady (w W : World) (F : Nat → Prop) (rb g n c i : Nat) (now k : Int) (lease : Int) (r : Rg) (R : List RE) (p : RE) : Prop where
  il : i < n
  K : ∀ wx, Below W.heap.size W wx → ((wx.cell? ⟨rb, 1, none⟩ = some (.int .i64 now) ∧ wx.cell? ⟨rb, 2, none⟩ = some (.slice (some ⟨g, 0, none⟩) n c)) ∧ wx.cell? ⟨w.heap.size, 0, none⟩ = some (.string r.lo) ∧ wx.cell? ⟨w.heap.size, 1, none⟩ = some (.string r.hi)) ∧
    (wx.cell? ⟨g, i * 3, none⟩ = some (.int .i64 p.p.n) ∧ wx.cell? ⟨g, i * 3 + 1, none⟩ = some (.slice p.A p.p.L.length p.c) ∧ wx.cell? ⟨g, i * 3 + 2, none⟩ = some (.int .i64 p.p.left)) ∧ (wx.frozen? ⟨g, i * 3, none⟩ = false ∧ wx.frozen? ⟨g, i * 3 + 1, none⟩ = false ∧ wx.frozen? ⟨g, i * 3 + 2, none⟩ = false)
  Ks : ∀ wx W4 A1 (m1 : List Rg) c1, Below W.heap.size W wx → ((wx.setCell ⟨g, i * 3, none⟩ (.int .i64 k)).setCell ⟨g, i * 3 + 1, none⟩ (.slice A1 m1.length c1)).setCell ⟨g, i * 3 + 2, none⟩ (.int .i64 now) = W4 → (W4.cell? ⟨rb, 1, none⟩ = some (.int .i64 now) ∧ W4.cell? ⟨rb, 2, none⟩ = some (.slice (some ⟨g, 0, none⟩) n c)) ∧ W4.cell? ⟨w.heap.size, 0, none⟩ = some (.string r.lo) ∧ W4.cell? ⟨w.heap.size, 1, none⟩ = some (.string r.hi)
  Rw : HasRgs W W.heap.size p.A p.p.L.length p.p.L
  len : p.p.L.length ≤ 10000
  Fin : ∀ wB W4 A1 (m1 : List Rg) c1, Below W.heap.size W wB → OwnRgs wB W.heap.size (.slice A1 m1.length c1) m1 → IsForm m1 (inS (p.p.L ++ [r])) → ((wB.setCell ⟨g, i * 3, none⟩ (.int .i64 k)).setCell ⟨g, i * 3 + 1, none⟩ (.slice A1 m1.length c1)).setCell ⟨g, i * 3 + 2, none⟩ (.int .i64 now) = W4 →
    ∃ v' R', RfAt W4 (addF F w W4) rb v' lease now R' ∧ rl R' = takeT now k r (rl R) ∧ KeptF F w W4
theorem TakeReady.of {w w3 : World} {g n c i : Nat} {k : Int} {r : Rg} {R R2 : List RE} {p : RE} (h : RfAt w3 (addF F w w3) rb (.slice (some ⟨g, 0, none⟩) n c) lease now R2) (hn : R2.length = n) (hi : R2[i]? = some p) (hx : Box w3 w.heap.size 23 #[.string r.lo, .string r.hi]) (k5 : KeptF F w w3) (hl : p.p.L.length ≤ 10000)
    (hr : RiseL (rl R)) (hp : rl R2 = hasL k (rl R) ∧ rangesT k (rl R) = p.p.L ∧ p.p.n = k) (hT : ∀ m : List Rg, IsForm m (inS (rangesT k (rl R) ++ [r])) → takeT now k r (rl R) = updL ⟨k, m, now⟩ (hasL k (rl R))) : TakeReady w w3 F rb g n c i now k lease r R p := by
  have hil : i < n := by have := (List.getElem?_eq_some_iff.1 hi).1; omega
  have hown := h.own
  unfold OwnRks at hown
  rw [hn] at hown
  have d0 : w3.cell? ⟨g, i * 3, none⟩ = some (.int .i64 p.p.n) := (World.ownsRow.cellAt hown (i * 3) (by omega)).trans (rkCells_at R2 i 0 p hi (by omega))
  have d1 : w3.cell? ⟨g, i * 3 + 1, none⟩ = some (.slice p.A p.p.L.length p.c) := (World.ownsRow.cellAt hown (i * 3 + 1) (by omega)).trans (rkCells_at R2 i 1 p hi (by omega))
  have d2 : w3.cell? ⟨g, i * 3 + 2, none⟩ = some (.int .i64 p.p.left) := (World.ownsRow.cellAt hown (i * 3 + 2) (by omega)).trans (rkCells_at R2 i 2 p hi (by omega))
  have hgl : g < w3.heap.size := h.lt g (h.vF g rfl)
  refine ⟨hil, fun wx hb => ?_, fun wx W4 A1 m1 c1 hb h4 => ?_, h.has (List.mem_of_getElem? hi), hl, fun wB W4 A1 m1 c1 hb ho hm hW => ?_⟩
  · have y1 := (h.below hb).cells
    have y2 := hx.below hb hx.lt
    have ho2 := own_belowN hown hb
    exact ⟨⟨⟨y1.1.2.1, y1.1.2.2⟩, y2.cell 0, y2.cell 1⟩, ⟨(hb.cell hgl).trans d0, (hb.cell hgl).trans d1, (hb.cell hgl).trans d2⟩, World.ownsRow.frozenAt ho2 _, World.ownsRow.frozenAt ho2 _, World.ownsRow.frozenAt ho2 _⟩
  · have y1 := (h.below hb).box
    have y2 := hx.below hb hx.lt
    obtain ⟨cs, hcs⟩ := ownL_type hown (rfl : (Value.slice (some ⟨g, 0, none⟩) n c).ownBlock = some g)
    have hne : rb ≠ g := fun e => h.vNe (g := g) rfl e.symm
    have hne2 : w.heap.size ≠ g := types_ne hx hcs typesR.2.2
    have hk : ∀ j, j ≠ g → W4.heap[j]? = wx.heap[j]? := fun j hj => by
      rw [← h4]
      exact ((Below.heap_setCell _ ⟨g, i * 3 + 2, none⟩ _ j hj).trans (Below.heap_setCell _ ⟨g, i * 3 + 1, none⟩ _ j hj)).trans (Below.heap_setCell _ ⟨g, i * 3, none⟩ _ j hj)
    have z1 : Box W4 rb _ _ := (hk rb hne).trans y1
    have z2 : Box W4 w.heap.size _ _ := (hk w.heap.size hne2).trans y2
    exact ⟨⟨z1.cell 1, z1.cell 2⟩, z2.cell 0, z2.cell 1⟩
  · obtain ⟨a1, a2⟩ := rtake_tail h hn hi hb ho hW
    refine ⟨_, _, addF_two k5.size a2.size ▸ a1, ?_, k5.trans a2⟩
    rw [hT m1 (by rw [hp.2.1]; exact hm), ← hp.1]
    exact rl_set (by rw [hp.1]; exact hasL_rise hr) hi hp.2.2.symm
theorem ready_ins {w wr W : World} {g n n2 c i : Nat} {k : Int} {r : Rg} {R : List RE} (hI : RfAt W (addF F wr W) rb (.slice (some ⟨g, 0, none⟩) n2 c) lease now (R.take i ++ [⟨⟨k, [], 0⟩, none, 0⟩] ++ R.drop i) ∧ KeptF F wr W ∧ Box W w.heap.size 23 #[.string r.lo, .string r.hi]) (hn : R.length = n) (hin : i ≤ n) (hn2 : i + 1 + (n - i) = n2) (hr : RiseL (rl R))
    (hg : getL k (rl R) = none) (h1 : ∀ e ∈ R.take i, e.p.n < k) (h2 : ∀ e, R[i]? = some e → ¬ e.p.n < k) (b2 : Below w.heap.size w wr) (hT : ∀ m : List Rg, IsForm m (inS (rangesT k (rl R) ++ [r])) → takeT now k r (rl R) = updL ⟨k, m, now⟩ (hasL k (rl R))) : TakeReady w W F rb g n2 c i now k lease r R ⟨⟨k, [], 0⟩, none, 0⟩ := by
  obtain ⟨a1, a2, a3⟩ := hI
  have ht : (R.take i).length = i := by rw [List.length_take]; omega
  refine TakeReady.of (a1.mono (fun i hi => hi.imp id (fun hi => by have := b2.size; omega)) (fun i hi => hi.elim (fun hi => a1.lt i (.inl hi)) (fun hi => hi.2))) ?_ ?_ a3 ((KeptF.of b2).trans0 a2) (by simp) hr ⟨rl_ins hg h1 h2 (by omega), ?_, rfl⟩ hT
  · rw [List.length_append, List.length_append, ht, List.length_drop, hn, List.length_singleton]
    exact hn2
  · rw [List.append_assoc, List.getElem?_append_right (by omega), ht, Nat.sub_self]
    rfl
  · unfold rangesT
    rw [hg]
set_option maxRecDepth 100000 in
set_option maxHeartbeats 12800000 in
theorem refTake16_any (h : RfAt w F rb v lease now R) (hr : RiseL (rl R)) (hR : R.length ≤ 10000) (hL : ∀ e ∈ R, e.p.L.length ≤ 10000) (k : Int) (r : Rg) :
    Calls Try.prog 59 #[.pointer (some ⟨rb, 0, none⟩), .int .i64 k, ragg r] w fun e w' => e = .returned (.int .i64 (takeE k r)) ∧ ∃ v' R', RfAt w' (addF F w w') rb v' lease now R' ∧ rl R' = takeT now k r (rl R) ∧ KeptF F w w' := by
  obtain ⟨w1, hw1⟩ : ∃ wa, w.alloc (.cells #[.string r.lo, .string r.hi] 23) = wa := ⟨_, rfl⟩
  have b1 : Below w.heap.size w w1 := hw1 ▸ below_box _
  have x1 : Box w1 w.heap.size 23 #[.string r.lo, .string r.hi] := hw1 ▸ Box.made _ _ _
  have h1 := h.below b1
  have p0 : w1.cell? ⟨w.heap.size, 0, none⟩ = some (.string r.lo) := x1.cell 0
  have p1 : w1.cell? ⟨w.heap.size, 1, none⟩ = some (.string r.hi) := x1.cell 1
  have HNo : Hid (∀ w', (k < 1 ∨ emptyR r) → Below w.heap.size w w' → (1 : Int) = takeE k r ∧ RfAt w' (addF F w w') rb v lease now R ∧ rl R = takeT now k r (rl R) ∧ KeptF F w w') := Lib.hid (fun w' hc hb => by
    have e1 : takeT now k r (rl R) = rl R := if_pos hc
    have e2 : takeE k r = 1 := if_pos hc
    exact ⟨e2.symm, (h.below hb).add, e1.symm, KeptF.of hb⟩)
  obtain ⟨res, hres⟩ : ∃ x, takeE k r = x := ⟨_, rfl⟩
  rw [hres]
  have Hres := Lib.hid hres
  clear hres
  by_cases hk1 : k < 1
  · have HB := Lib.hid (And.intro hk1 b1)
    unfold ragg
    clear h h1 b1 x1 hL
    go_enter Try.func59, Try.ntmps59
    go_wp2
    go_ret
    have HN := HNo.out _ (.inl HB.out.1) HB.out.2
    exact ⟨by rw [← Hres.out, ← HN.1]; rfl, _, _, HN.2⟩
  · have hk2 : decide (k < 1) = false := decide_eq_false hk1
    have Hem := Lib.hid (refEmpty_any r w1)
    obtain ⟨d, hd⟩ : ∃ d, decide (emptyR r) = d := ⟨_, rfl⟩
    rw [hd] at Hem
    have Hd := Lib.hid hd
    clear hd
    cases d with
    | true =>
      have HB := Lib.hid b1
      unfold ragg at Hem ⊢
      clear h h1 b1 x1 hL
      go_enter Try.func59, Try.ntmps59
      go_wp2_with fail
      refine Hem.out.mono ?_
      rintro ee w2 ⟨rfl, b2⟩
      have HB2 := Lib.hid (HB.out.trans (b2.mono HB.out.size))
      clear b2
      go_wp2
      go_ret
      have HN := HNo.out _ (.inr (of_decide_eq_true Hd.out)) HB2.out
      exact ⟨by rw [← Hres.out, ← HN.1]; rfl, _, _, HN.2⟩
    | false =>
      have hre : ¬ emptyR r := of_decide_eq_false Hd.out
      obtain rfl : res = 0 := by
        rw [← Hres.out]
        exact if_neg (fun hh => hh.elim hk1 hre)
      have HC := Lib.hid (And.intro (Int.not_lt.1 hk1) hre)
      have H1 := Lib.hid (And.intro h1 (And.intro x1 (And.intro b1 (And.intro hr hL))))
      obtain ⟨n, hn⟩ : ∃ n, R.length = n := ⟨_, rfl⟩
      have Hn := Lib.hid hn
      have hRn : n ≤ 10000 := hn ▸ hR
      have HTk : Hid (∀ m : List Rg, IsForm m (inS (rangesT k (rl R) ++ [r])) → takeT now k r (rl R) = updL ⟨k, m, now⟩ (hasL k (rl R))) := Lib.hid fun m hm => (takeT_has (lease := now) hk1 hre hm).1
      unfold ragg at Hem ⊢
      clear h h1 b1 x1 hL hre hn hR HNo
      go_enter Try.func59, Try.ntmps59
      go_wp2_with fail
      refine Hem.out.mono ?_
      rintro ee w2 ⟨rfl, b2⟩
      have h2 := H1.out.1.below b2
      have BW := Lib.hid (H1.out.2.2.1.trans (b2.mono H1.out.2.2.1.size))
      have x2 := H1.out.2.1.below b2 H1.out.2.1.lt
      have Hat := Lib.hid (refAt16_any h2 (by have := Hn.out; omega) k)
      have H2 := Lib.hid (And.intro h2 x2)
      obtain ⟨⟨q0, q1, q2⟩, -, -⟩ := h2.cells
      unfold AtPost at Hat
      clear b2 h2 x2 p0 p1
      go_wp2_with fail
      refine Hat.out.mono ?_
      rintro ee w3 ⟨hw3, hp⟩
      subst hw3
      clear Hat
      rcases hp with ⟨rfl, hp⟩ | ⟨i, p, rfl, hi, hk⟩
      · have hg0 := get_no hp
        have HG := Lib.hid hg0
        obtain ⟨A, c, rfl, hnc, hcm, hs⟩ := H2.out.1.own.slice
        rw [Hn.out] at hs hnc q2
        have Hs := Lib.hid hs
        have H2a : Hid (RfAt w3 F rb (.slice A n c) lease now R ∧ Box w3 w.heap.size 23 #[.string r.lo, .string r.hi]) := Lib.hid (by
          have := H2.out
          rw [Hn.out] at this
          exact this)
        have hrb := H2.out.1.lt rb H2.out.1.rF
        clear hp hg0 H2 hs
        go_wp2
        go_loopw [7] (fun iv wr => ∃ j : Nat, j ≤ n ∧ iv = .int .i64 (j : Int) ∧ Hid (∀ e ∈ R.take j, e.p.n < k) ∧ wr = w3) (fun iv _ => n - (intOf iv).toNat)
        case atStart => exact ⟨0, by omega, rfl, Lib.hid (by simp), rfl⟩
        case round =>
          obtain ⟨i, hj, rfl, Hp, rfl⟩ := hrel
          have Hgo : Hid (∀ y, R[i]? = some y → y.p.n < k → ∀ e ∈ R.take (i + 1), e.p.n < k) := Lib.hid fun y hy hlt e he => by
            rw [List.take_add_one, hy] at he
            rcases List.mem_append.1 he with he | he
            · exact Hp.out e he
            · simp at he; subst he; exact hlt
          by_cases hin : i < n
          · obtain ⟨a, y, rfl, hab, hy, c0, -⟩ := Hs.out.at_ hin
            have Hy := Lib.hid hy
            have hk0 : (0 : Int) ≤ (i : Int) := by omega
            have hk1 : (i : Int) < (n : Int) := by omega
            obtain ⟨yn, hyn⟩ : ∃ yn, y.p.n = yn := ⟨_, rfl⟩
            have Hyn := Lib.hid hyn
            rw [hyn] at c0
            clear hy hyn hab
            by_cases hlt : yn < k
            · have Hp1 := Lib.hid (Hgo.out y Hy.out (by rw [Hyn.out]; exact hlt))
              have hlt2 : decide (yn < k) = true := decide_eq_true hlt
              go_wp2
              go_roundw
              case rel => exact ⟨i + 1, by omega, by go_num, Hp1, trivial⟩
              case measure => simp [intOf]; omega
            · have hlt2 : decide (yn < k) = false := decide_eq_false hlt
              have Hstop : Hid (∀ e, R[i]? = some e → ¬ e.p.n < k) := Lib.hid fun e he => by
                rw [Hy.out] at he
                cases he
                rw [Hyn.out]
                exact hlt
              have hci : ¬ c = i := by omega
              have hci2 : ¬ i = c := by omega
              have Hin : Hid (i ≤ n) := Lib.hid hj
              have HSr : Hid (Has wr wr.heap.size (some a) (n * 3) (rkCells R)) := Lib.hid Hs.out.2
              have Hsrc : Hid (Has wr wr.heap.size (some a) (i * 3) (rkCells (R.take i))) := Lib.hid (by
                rw [← rkCells_take R i]
                exact Has.take HSr.out (by omega))
              have HD : Hid (∀ wx, Has wx wr.heap.size (some a) (n * 3) (rkCells R) → Has wx wr.heap.size (some (a.add (i * 3))) ((n - i) * 3) (rkCells (R.drop i))) := Lib.hid fun wx hx => (rks_from (c := c) (k := i) hx Hn.out (by omega)).2
              have Hq : Hid (∀ wx, Below wr.heap.size wr wx → (wx.cell? ⟨rb, 2, none⟩ = some (.slice (some a) n c) ∧ wx.frozen? ⟨rb, 2, none⟩ = false)) := Lib.hid fun wx hx => by
                have := (H2a.out.1.below hx).cells
                exact ⟨this.1.2.2, this.2.2⟩
              have HFinI : Hid (∀ x5 W v5 m, Below wr.heap.size wr x5 → x5.ownsRow wr.heap.size 83 3 v5 m (rkCells (R.take i) ++ rkCells [⟨⟨k, [], 0⟩, none, 0⟩] ++ rkCells (R.drop i)) → m = i + 1 + (n - i) → x5.setCell ⟨rb, 2, none⟩ v5 = W →
                  RfAt W (addF F wr W) rb v5 lease now (R.take i ++ [⟨⟨k, [], 0⟩, none, 0⟩] ++ R.drop i) ∧ KeptF F wr W ∧ Box W w.heap.size 23 #[.string r.lo, .string r.hi]) := Lib.hid fun x5 W v5 m hb ho hm hW => by
                have hlen : (R.take i ++ [(⟨⟨k, [], 0⟩, none, 0⟩ : RE)] ++ R.drop i).length = m := by
                  rw [hm, List.length_append, List.length_append, List.length_take, List.length_drop, Hn.out, List.length_singleton]
                  have := Hin.out
                  omega
                obtain ⟨a1, a2⟩ := H2a.out.1.setL hb (v' := v5) (R' := R.take i ++ [⟨⟨k, [], 0⟩, none, 0⟩] ++ R.drop i) (by unfold OwnRks; exact own_eqR ho hlen.symm (by rw [rkCells_app, rkCells_app])) (fun e he => by
                  have he' : e ∈ R ∨ e = ⟨⟨k, [], 0⟩, none, 0⟩ := by
                    rcases List.mem_append.1 he with he | he
                    · rcases List.mem_append.1 he with he | he
                      · exact .inl (List.mem_of_mem_take he)
                      · exact .inr (by simpa using he)
                    · exact .inl (List.mem_of_mem_drop he)
                  rcases he' with he' | rfl
                  · exact ⟨ownL_keep (H2a.out.1.rows e he') fun g hg => hb.block g (H2a.out.1.lt g (H2a.out.1.eF e he' g hg)), fun g hg => .inl (H2a.out.1.eF e he' g hg)⟩
                  · exact ⟨OwnRgs.nil _ _, fun g hg => by cases hg⟩) hW
                have y2 := H2a.out.2.below hb H2a.out.2.lt
                have hne : w.heap.size ≠ rb := types_ne H2a.out.2 H2a.out.1.box typesR.2.1
                exact ⟨a1, a2, (hW ▸ Below.heap_setCell x5 ⟨rb, 2, none⟩ v5 w.heap.size hne : W.heap[w.heap.size]? = x5.heap[w.heap.size]?).trans y2⟩
              have j0 : (0 : Int) ≤ (i : Int) := by omega
              have j2 : ¬ (i : Int) < 0 := by omega
              have j3 : (i : Int) ≤ (c : Int) := by omega
              have j4 : (i : Int) ≤ (n : Int) := by omega
              have j5 : (n : Int) ≤ (c : Int) := by omega
              go_wp2_with (first
                | (at_builtin; refine wpList_append_hasN rfl (.tmp 42) (.tmp 48) _ rfl 83 rk_elem (by omega) Try.underlying76 rfl (World.ownsRow_nil wr wr.heap.size 83 3) rfl Hsrc.out (rkCells_one _) (by simp only [maxLen]; omega) (by omega) (Nat.le_refl _) ?_; intro v1 x1 ho1 hg1 hz1; have B1 : Hid (Below wr.heap.size wr x1) := Lib.hid ((Below.refl _ wr).grown hg1 (Nat.le_refl _) (fun g hg => by cases hg)); have O1 : Hid (x1.ownsRow wr.heap.size 83 3 v1 i (rkCells (R.take i))) := Lib.hid (own_eqR ho1 (Nat.zero_add _) (List.nil_append _)); obtain ⟨Aa, ca, rfl, -⟩ := own_sliceN O1.out; have O1a := Lib.hid (own_belowN O1.out (below_box (w := x1) (.cells #[.int .i64 k, .slice none 0 0, .int .i64 0] 83))); have L2 := Lib.hid (rk_lit x1 ⟨⟨k, [], 0⟩, none, 0⟩); have hxa : wr.heap.size ≤ (x1.alloc (.cells #[.int .i64 k, .slice none 0 0, .int .i64 0] 83)).heap.size := (by have := B1.out.size; simp; omega); have Ba : Hid (Below wr.heap.size wr (x1.alloc (.cells #[.int .i64 k, .slice none 0 0, .int .i64 0] 83))) := Lib.hid (B1.out.trans ((below_box _).mono B1.out.size)); clear ho1 hg1 hz1)
                | (at_builtin; refine wpList_append_hasN rfl (.tmp 50) (.tmp 53) _ rfl 83 rk_elem (by omega) Try.underlying76 rfl O1a.out rfl L2.out (rkCells_one _) (by simp only [maxLen]; omega) (by omega) hxa ?_; intro v2 x2 ho2 hg2 hz2; have B2 : Hid (Below wr.heap.size wr x2) := Lib.hid (Ba.out.grown hg2 hxa (fun g hg => (O1a.out.lt g hg).1)); obtain ⟨Ab, cb, rfl, -⟩ := own_sliceN ho2; have O2 := Lib.hid ho2; have qx := (Hq.out x2 B2.out).1; have Src := Lib.hid (HD.out x2 (HSr.out.below B2.out)); have hx2 := B2.out.size; clear ho2 hg2 hz2)
                | (at_builtin; refine wpList_append_hasN rfl (.tmp 56) (.tmp 62) _ rfl 83 rk_elem (by omega) Try.underlying76 rfl O2.out rfl Src.out (rkCells_one _) (by simp only [maxLen]; omega) (by omega) hx2 ?_; intro v3 x3 ho3 hg3 hz3; have B3 : Hid (Below wr.heap.size wr x3) := Lib.hid (B2.out.grown hg3 hx2 (fun g hg => (O2.out.lt g hg).1)); obtain ⟨g2, cc, rfl, -, -⟩ := own_some ho3 (by omega); obtain ⟨c5, f5⟩ := Hq.out x3 B3.out; obtain ⟨n2, hn2⟩ : ∃ n2, i + 1 + (n - i) = n2 := ⟨_, rfl⟩; rw [hn2] at ho3; obtain ⟨W, hW⟩ : ∃ W, x3.setCell ⟨rb, 2, none⟩ (.slice (some ⟨g2, 0, none⟩) n2 cc) = W := ⟨_, rfl⟩; have HI := Lib.hid (HFinI.out x3 W _ _ B3.out ho3 hn2.symm hW); have HT := Lib.hid (ready_ins HI.out Hn.out Hin.out hn2 H1.out.2.2.2.1 HG.out Hp.out Hstop.out BW.out HTk.out); rw [hn2]; obtain ⟨⟨⟨q1, q2⟩, p0, p1⟩, ⟨d0, d1, d2⟩, e0, e1, e2⟩ := HT.out.K W (Below.refl _ _); have j6 : (i : Int) < (n2 : Int) := (by have := HT.out.il; omega); have j7 := HT.out.il; clear ho3 hg3 hz3 hn2)
                | (at_builtin; refine wpList_append_hasN rfl (.tmp 66) (.tmp 74) _ rfl 23 rg_elem (by omega) Try.underlying26 rfl (World.ownsRow_nil W W.heap.size 23 2) rfl HT.out.Rw.2 (rgCells_one _) (by have := HT.out.len; simp only [maxLen]; omega) (by have := HT.out.len; omega) (Nat.le_refl _) ?_; intro v1 x1 ho1 hg1 hz1; have B1 : Hid (Below W.heap.size W x1) := Lib.hid ((Below.refl _ W).grown hg1 (Nat.le_refl _) (fun g hg => by cases hg)); rw [Nat.zero_add, List.nil_append] at ho1; obtain ⟨Aa, ca, rfl, -⟩ := own_sliceN ho1; have O1 := Lib.hid ho1; clear ho1 hg1 hz1))
              have S1 := HT.out.K x1 B1.out
              obtain ⟨⟨⟨q1, q2⟩, p0, p1⟩, ⟨d0, d1, d2⟩, e0, e1, e2⟩ := S1
              have bA : Below x1.heap.size x1 (x1.drew.alloc (.cells #[.string r.lo, .string r.hi] 23)) := (Below.refl _ x1).drew.alloc (Nat.le_refl _) _
              have HS3 : Hid (W.heap.size ≤ x1.heap.size) := Lib.hid B1.out.size
              go_region_held3 (fun wx => (wx.cell? ⟨rb, 1, none⟩ = some (.int .i64 now) ∧ wx.cell? ⟨rb, 2, none⟩ = some (.slice (some ⟨g2, 0, none⟩) n2 cc)) ∧ wx.cell? ⟨w.heap.size, 0, none⟩ = some (.string r.lo) ∧ wx.cell? ⟨w.heap.size, 1, none⟩ = some (.string r.hi))
                (first | exact ⟨⟨q1, q2⟩, p0, p1⟩ | exact HT.out.Ks _ _ _ _ _ BB.out rfl | exact SB.out | exact (HT.out.K _ bA2.out).1 | exact (HT.out.K _ (B1.out.trans ((Below.refl _ x1).drew.mono HS3.out))).1 | exact (HT.out.K _ (B1.out.trans (bA.mono HS3.out))).1)
                (first
                  | (refine step_append_hasN (by rfl) _ _ _ (by rfl) 23 rg_elem (by omega) Try.underlying26 (by rfl) (own_belowN O1.out bA) (by rfl) (rg_lit _ r) (rgCells_one [r]) (by have := HT.out.len; simp only [maxLen]; omega) (by have := HT.out.len; omega) (Nat.le_trans HS3.out bA.size) ?_; intro vA wA oA gA zA; obtain ⟨AA, cA, rfl, -, -, -⟩ := own_sliceN oA; have bA2 : Hid (Below W.heap.size W wA) := Lib.hid ((B1.out.trans (bA.mono HS3.out)).grown gA (Nat.le_trans HS3.out bA.size) (fun q hq => (World.ownsRow.lt O1.out q hq).1)))
                  | (go_at_call 20; refine (refLeast_any AA _ cA wA.heap.size (([] : List Rg) ++ [r]) wA (own_all oA rfl) (Nat.le_refl _) (by have := HT.out.len; omega)).mono ?_; rintro ee wB ⟨m1, vB, rfl, om, fm, lm, bm⟩; obtain ⟨AB, cB, rfl, -, -, -⟩ := om.slice; have BB : Hid (Below W.heap.size W wB) := Lib.hid (bA2.out.trans (bm.mono bA2.out.size)); have SB := Lib.hid ((HT.out.K _ BB.out).1); obtain ⟨-, ⟨y0, y1, y2⟩, z0, z1, z2⟩ := HT.out.K _ BB.out; have OB := Lib.hid (And.intro (own_baseN om bA2.out.size) fm)))
              obtain ⟨W4, hW4⟩ : ∃ W4, ((wB.setCell ⟨g2, i * 3, none⟩ (.int .i64 k)).setCell ⟨g2, i * 3 + 1, none⟩ (.slice AB m1.length cB)).setCell ⟨g2, i * 3 + 2, none⟩ (.int .i64 now) = W4 := ⟨_, rfl⟩
              have HE := Lib.hid (HT.out.Fin wB W4 AB m1 cB BB.out OB.out.1 OB.out.2 hW4)
              clear SB BB OB om fm lm bm y0 y1 y2 z0 z1 z2 oA gA zA bA bA2 q1 q2 p0 p1 d0 d1 d2 e0 e1 e2
              rw [hW4]
              go_wp2
              go_ret
              exact ⟨rfl, HE.out⟩
          · have Hstop : Hid (∀ e, R[i]? = some e → ¬ e.p.n < k) := Lib.hid fun e he => by
              have := (List.getElem?_eq_some_iff.1 he).1
              have := Hn.out
              omega
            obtain rfl : i = n := by omega
            have hlt2 : decide ((i : Int) < (i : Int)) = false := decide_eq_false (by omega)
            cases A with
            | none =>
              obtain ⟨rfl, rfl⟩ : i = 0 ∧ c = 0 := by
                have h9 := H2a.out.1.own.2
                rcases h9 with ⟨h9, h8⟩ | ⟨g, cap, cur, h9, -⟩
                · injection h9 with _ h8 h7
                  exact ⟨h8, h7⟩
                · injection h9 with h9 _ _
                  cases h9
              have Hin : Hid (0 ≤ 0) := Lib.hid hj
              have HSr : Hid (Has wr wr.heap.size (none) (0 * 3) (rkCells R)) := Lib.hid Hs.out.2
              have Hsrc : Hid (Has wr wr.heap.size (none) (0 * 3) (rkCells (R.take 0))) := Lib.hid (by
                rw [← rkCells_take R 0]
                exact Has.take HSr.out (by omega))
              have HD : Hid (∀ wx, Has wx wr.heap.size (none) (0 * 3) (rkCells R) → Has wx wr.heap.size (none) ((0 - 0) * 3) (rkCells (R.drop 0))) := Lib.hid fun wx hx => (by rw [List.eq_nil_of_length_eq_zero Hn.out]; exact Has.nil _ _ _)
              have Hq : Hid (∀ wx, Below wr.heap.size wr wx → (wx.cell? ⟨rb, 2, none⟩ = some (.slice (none) 0 0) ∧ wx.frozen? ⟨rb, 2, none⟩ = false)) := Lib.hid fun wx hx => by
                have := (H2a.out.1.below hx).cells
                exact ⟨this.1.2.2, this.2.2⟩
              have HFinI : Hid (∀ x5 W v5 m, Below wr.heap.size wr x5 → x5.ownsRow wr.heap.size 83 3 v5 m (rkCells (R.take 0) ++ rkCells [⟨⟨k, [], 0⟩, none, 0⟩] ++ rkCells (R.drop 0)) → m = 0 + 1 + (0 - 0) → x5.setCell ⟨rb, 2, none⟩ v5 = W →
                  RfAt W (addF F wr W) rb v5 lease now (R.take 0 ++ [⟨⟨k, [], 0⟩, none, 0⟩] ++ R.drop 0) ∧ KeptF F wr W ∧ Box W w.heap.size 23 #[.string r.lo, .string r.hi]) := Lib.hid fun x5 W v5 m hb ho hm hW => by
                have hlen : (R.take 0 ++ [(⟨⟨k, [], 0⟩, none, 0⟩ : RE)] ++ R.drop 0).length = m := by
                  rw [hm, List.length_append, List.length_append, List.length_take, List.length_drop, Hn.out, List.length_singleton]
                  have := Hin.out
                  omega
                obtain ⟨a1, a2⟩ := H2a.out.1.setL hb (v' := v5) (R' := R.take 0 ++ [⟨⟨k, [], 0⟩, none, 0⟩] ++ R.drop 0) (by unfold OwnRks; exact own_eqR ho hlen.symm (by rw [rkCells_app, rkCells_app])) (fun e he => by
                  have he' : e ∈ R ∨ e = ⟨⟨k, [], 0⟩, none, 0⟩ := by
                    rcases List.mem_append.1 he with he | he
                    · rcases List.mem_append.1 he with he | he
                      · exact .inl (List.mem_of_mem_take he)
                      · exact .inr (by simpa using he)
                    · exact .inl (List.mem_of_mem_drop he)
                  rcases he' with he' | rfl
                  · exact ⟨ownL_keep (H2a.out.1.rows e he') fun g hg => hb.block g (H2a.out.1.lt g (H2a.out.1.eF e he' g hg)), fun g hg => .inl (H2a.out.1.eF e he' g hg)⟩
                  · exact ⟨OwnRgs.nil _ _, fun g hg => by cases hg⟩) hW
                have y2 := H2a.out.2.below hb H2a.out.2.lt
                have hne : w.heap.size ≠ rb := types_ne H2a.out.2 H2a.out.1.box typesR.2.1
                exact ⟨a1, a2, (hW ▸ Below.heap_setCell x5 ⟨rb, 2, none⟩ v5 w.heap.size hne : W.heap[w.heap.size]? = x5.heap[w.heap.size]?).trans y2⟩
              have j0 : (0 : Int) ≤ (0 : Int) := by omega
              have j2 : ¬ (0 : Int) < 0 := by omega
              have j3 : (0 : Int) ≤ (0 : Int) := by omega
              have j4 : (0 : Int) ≤ (0 : Int) := by omega
              have j5 : (0 : Int) ≤ (0 : Int) := by omega
              go_wp2_with (first
                | (at_builtin; refine wpList_append_hasN rfl (.tmp 42) (.tmp 48) _ rfl 83 rk_elem (by omega) Try.underlying76 rfl (World.ownsRow_nil wr wr.heap.size 83 3) rfl Hsrc.out (rkCells_one _) (by simp only [maxLen]; omega) (by omega) (Nat.le_refl _) ?_; intro v1 x1 ho1 hg1 hz1; have B1 : Hid (Below wr.heap.size wr x1) := Lib.hid ((Below.refl _ wr).grown hg1 (Nat.le_refl _) (fun g hg => by cases hg)); have O1 : Hid (x1.ownsRow wr.heap.size 83 3 v1 0 (rkCells (R.take 0))) := Lib.hid (own_eqR ho1 (Nat.zero_add _) (List.nil_append _)); obtain ⟨Aa, ca, rfl, -⟩ := own_sliceN O1.out; have O1a := Lib.hid (own_belowN O1.out (below_box (w := x1) (.cells #[.int .i64 k, .slice none 0 0, .int .i64 0] 83))); have L2 := Lib.hid (rk_lit x1 ⟨⟨k, [], 0⟩, none, 0⟩); have hxa : wr.heap.size ≤ (x1.alloc (.cells #[.int .i64 k, .slice none 0 0, .int .i64 0] 83)).heap.size := (by have := B1.out.size; simp; omega); have Ba : Hid (Below wr.heap.size wr (x1.alloc (.cells #[.int .i64 k, .slice none 0 0, .int .i64 0] 83))) := Lib.hid (B1.out.trans ((below_box _).mono B1.out.size)); clear ho1 hg1 hz1)
                | (at_builtin; refine wpList_append_hasN rfl (.tmp 50) (.tmp 53) _ rfl 83 rk_elem (by omega) Try.underlying76 rfl O1a.out rfl L2.out (rkCells_one _) (by simp only [maxLen]; omega) (by omega) hxa ?_; intro v2 x2 ho2 hg2 hz2; have B2 : Hid (Below wr.heap.size wr x2) := Lib.hid (Ba.out.grown hg2 hxa (fun g hg => (O1a.out.lt g hg).1)); obtain ⟨Ab, cb, rfl, -⟩ := own_sliceN ho2; have O2 := Lib.hid ho2; have qx := (Hq.out x2 B2.out).1; have Src := Lib.hid (HD.out x2 (HSr.out.below B2.out)); have hx2 := B2.out.size; clear ho2 hg2 hz2)
                | (at_builtin; refine wpList_append_hasN rfl (.tmp 56) (.tmp 62) _ rfl 83 rk_elem (by omega) Try.underlying76 rfl O2.out rfl Src.out (rkCells_one _) (by simp only [maxLen]; omega) (by omega) hx2 ?_; intro v3 x3 ho3 hg3 hz3; have B3 : Hid (Below wr.heap.size wr x3) := Lib.hid (B2.out.grown hg3 hx2 (fun g hg => (O2.out.lt g hg).1)); obtain ⟨g2, cc, rfl, -, -⟩ := own_some ho3 (by omega); obtain ⟨c5, f5⟩ := Hq.out x3 B3.out; obtain ⟨n2, hn2⟩ : ∃ n2, 0 + 1 + (0 - 0) = n2 := ⟨_, rfl⟩; rw [hn2] at ho3; obtain ⟨W, hW⟩ : ∃ W, x3.setCell ⟨rb, 2, none⟩ (.slice (some ⟨g2, 0, none⟩) n2 cc) = W := ⟨_, rfl⟩; have HI := Lib.hid (HFinI.out x3 W _ _ B3.out ho3 hn2.symm hW); have HT := Lib.hid (ready_ins HI.out Hn.out Hin.out hn2 H1.out.2.2.2.1 HG.out Hp.out Hstop.out BW.out HTk.out); rw [hn2]; obtain ⟨⟨⟨q1, q2⟩, p0, p1⟩, ⟨d0, d1, d2⟩, e0, e1, e2⟩ := HT.out.K W (Below.refl _ _); simp only [Nat.zero_mul, Nat.zero_add] at d0 d1 d2 e0 e1 e2; have j6 : (0 : Int) < (n2 : Int) := (by have := HT.out.il; omega); have j7 := HT.out.il; clear ho3 hg3 hz3 hn2)
                | (at_builtin; refine wpList_append_hasN rfl (.tmp 66) (.tmp 74) _ rfl 23 rg_elem (by omega) Try.underlying26 rfl (World.ownsRow_nil W W.heap.size 23 2) rfl HT.out.Rw.2 (rgCells_one _) (by have := HT.out.len; simp only [maxLen]; omega) (by have := HT.out.len; omega) (Nat.le_refl _) ?_; intro v1 x1 ho1 hg1 hz1; have B1 : Hid (Below W.heap.size W x1) := Lib.hid ((Below.refl _ W).grown hg1 (Nat.le_refl _) (fun g hg => by cases hg)); rw [Nat.zero_add, List.nil_append] at ho1; obtain ⟨Aa, ca, rfl, -⟩ := own_sliceN ho1; have O1 := Lib.hid ho1; clear ho1 hg1 hz1))
              have S1 := HT.out.K x1 B1.out
              simp only [Nat.zero_mul, Nat.zero_add] at S1
              obtain ⟨⟨⟨q1, q2⟩, p0, p1⟩, ⟨d0, d1, d2⟩, e0, e1, e2⟩ := S1
              have bA : Below x1.heap.size x1 (x1.drew.alloc (.cells #[.string r.lo, .string r.hi] 23)) := (Below.refl _ x1).drew.alloc (Nat.le_refl _) _
              have HS3 : Hid (W.heap.size ≤ x1.heap.size) := Lib.hid B1.out.size
              go_region_held3 (fun wx => (wx.cell? ⟨rb, 1, none⟩ = some (.int .i64 now) ∧ wx.cell? ⟨rb, 2, none⟩ = some (.slice (some ⟨g2, 0, none⟩) n2 cc)) ∧ wx.cell? ⟨w.heap.size, 0, none⟩ = some (.string r.lo) ∧ wx.cell? ⟨w.heap.size, 1, none⟩ = some (.string r.hi))
                (first | exact ⟨⟨q1, q2⟩, p0, p1⟩ | exact HT.out.Ks _ _ _ _ _ BB.out rfl | exact SB.out | exact (HT.out.K _ bA2.out).1 | exact (HT.out.K _ (B1.out.trans ((Below.refl _ x1).drew.mono HS3.out))).1 | exact (HT.out.K _ (B1.out.trans (bA.mono HS3.out))).1)
                (first
                  | (refine step_append_hasN (by rfl) _ _ _ (by rfl) 23 rg_elem (by omega) Try.underlying26 (by rfl) (own_belowN O1.out bA) (by rfl) (rg_lit _ r) (rgCells_one [r]) (by have := HT.out.len; simp only [maxLen]; omega) (by have := HT.out.len; omega) (Nat.le_trans HS3.out bA.size) ?_; intro vA wA oA gA zA; obtain ⟨AA, cA, rfl, -, -, -⟩ := own_sliceN oA; have bA2 : Hid (Below W.heap.size W wA) := Lib.hid ((B1.out.trans (bA.mono HS3.out)).grown gA (Nat.le_trans HS3.out bA.size) (fun q hq => (World.ownsRow.lt O1.out q hq).1)))
                  | (go_at_call 20; refine (refLeast_any AA _ cA wA.heap.size (([] : List Rg) ++ [r]) wA (own_all oA rfl) (Nat.le_refl _) (by have := HT.out.len; omega)).mono ?_; rintro ee wB ⟨m1, vB, rfl, om, fm, lm, bm⟩; obtain ⟨AB, cB, rfl, -, -, -⟩ := om.slice; have BB : Hid (Below W.heap.size W wB) := Lib.hid (bA2.out.trans (bm.mono bA2.out.size)); have SB := Lib.hid ((HT.out.K _ BB.out).1); obtain ⟨-, ⟨y0, y1, y2⟩, z0, z1, z2⟩ := HT.out.K _ BB.out; simp only [Nat.zero_mul, Nat.zero_add] at y0 y1 y2 z0 z1 z2; have OB := Lib.hid (And.intro (own_baseN om bA2.out.size) fm)))
              obtain ⟨W4, hW4⟩ : ∃ W4, ((wB.setCell ⟨g2, 0, none⟩ (.int .i64 k)).setCell ⟨g2, 1, none⟩ (.slice AB m1.length cB)).setCell ⟨g2, 2, none⟩ (.int .i64 now) = W4 := ⟨_, rfl⟩
              have HE := Lib.hid (HT.out.Fin wB W4 AB m1 cB BB.out OB.out.1 OB.out.2 hW4)
              clear SB BB OB om fm lm bm y0 y1 y2 z0 z1 z2 oA gA zA bA bA2 q1 q2 p0 p1 d0 d1 d2 e0 e1 e2
              rw [hW4]
              go_wp2
              go_ret
              exact ⟨rfl, HE.out⟩
            | some a =>
              by_cases hci : c = i
              · skip
                have Hin : Hid (i ≤ i) := Lib.hid hj
                have HSr : Hid (Has wr wr.heap.size (some a) (i * 3) (rkCells R)) := Lib.hid Hs.out.2
                have Hsrc : Hid (Has wr wr.heap.size (some a) (i * 3) (rkCells (R.take i))) := Lib.hid (by
                  rw [← rkCells_take R i]
                  exact Has.take HSr.out (by omega))
                have HD : Hid (∀ wx, Has wx wr.heap.size (some a) (i * 3) (rkCells R) → Has wx wr.heap.size (some a) (0 * 3) (rkCells (R.drop i))) := Lib.hid fun wx hx => (by have h9 := (rks_from (c := c) (k := i) hx Hn.out (by omega)).1 hci hnc; rw [Nat.sub_self] at h9; exact h9)
                have Hq : Hid (∀ wx, Below wr.heap.size wr wx → (wx.cell? ⟨rb, 2, none⟩ = some (.slice (some a) i c) ∧ wx.frozen? ⟨rb, 2, none⟩ = false)) := Lib.hid fun wx hx => by
                  have := (H2a.out.1.below hx).cells
                  exact ⟨this.1.2.2, this.2.2⟩
                have HFinI : Hid (∀ x5 W v5 m, Below wr.heap.size wr x5 → x5.ownsRow wr.heap.size 83 3 v5 m (rkCells (R.take i) ++ rkCells [⟨⟨k, [], 0⟩, none, 0⟩] ++ rkCells (R.drop i)) → m = i + 1 + 0 → x5.setCell ⟨rb, 2, none⟩ v5 = W →
                    RfAt W (addF F wr W) rb v5 lease now (R.take i ++ [⟨⟨k, [], 0⟩, none, 0⟩] ++ R.drop i) ∧ KeptF F wr W ∧ Box W w.heap.size 23 #[.string r.lo, .string r.hi]) := Lib.hid fun x5 W v5 m hb ho hm hW => by
                  have hlen : (R.take i ++ [(⟨⟨k, [], 0⟩, none, 0⟩ : RE)] ++ R.drop i).length = m := by
                    rw [hm, List.length_append, List.length_append, List.length_take, List.length_drop, Hn.out, List.length_singleton]
                    have := Hin.out
                    omega
                  obtain ⟨a1, a2⟩ := H2a.out.1.setL hb (v' := v5) (R' := R.take i ++ [⟨⟨k, [], 0⟩, none, 0⟩] ++ R.drop i) (by unfold OwnRks; exact own_eqR ho hlen.symm (by rw [rkCells_app, rkCells_app])) (fun e he => by
                    have he' : e ∈ R ∨ e = ⟨⟨k, [], 0⟩, none, 0⟩ := by
                      rcases List.mem_append.1 he with he | he
                      · rcases List.mem_append.1 he with he | he
                        · exact .inl (List.mem_of_mem_take he)
                        · exact .inr (by simpa using he)
                      · exact .inl (List.mem_of_mem_drop he)
                    rcases he' with he' | rfl
                    · exact ⟨ownL_keep (H2a.out.1.rows e he') fun g hg => hb.block g (H2a.out.1.lt g (H2a.out.1.eF e he' g hg)), fun g hg => .inl (H2a.out.1.eF e he' g hg)⟩
                    · exact ⟨OwnRgs.nil _ _, fun g hg => by cases hg⟩) hW
                  have y2 := H2a.out.2.below hb H2a.out.2.lt
                  have hne : w.heap.size ≠ rb := types_ne H2a.out.2 H2a.out.1.box typesR.2.1
                  exact ⟨a1, a2, (hW ▸ Below.heap_setCell x5 ⟨rb, 2, none⟩ v5 w.heap.size hne : W.heap[w.heap.size]? = x5.heap[w.heap.size]?).trans y2⟩
                have j0 : (0 : Int) ≤ (i : Int) := by omega
                have j2 : ¬ (i : Int) < 0 := by omega
                have j3 : (i : Int) ≤ (c : Int) := by omega
                have j4 : (i : Int) ≤ (i : Int) := by omega
                have j5 : (i : Int) ≤ (c : Int) := by omega
                go_wp2_with (first
                  | (at_builtin; refine wpList_append_hasN rfl (.tmp 42) (.tmp 48) _ rfl 83 rk_elem (by omega) Try.underlying76 rfl (World.ownsRow_nil wr wr.heap.size 83 3) rfl Hsrc.out (rkCells_one _) (by simp only [maxLen]; omega) (by omega) (Nat.le_refl _) ?_; intro v1 x1 ho1 hg1 hz1; have B1 : Hid (Below wr.heap.size wr x1) := Lib.hid ((Below.refl _ wr).grown hg1 (Nat.le_refl _) (fun g hg => by cases hg)); have O1 : Hid (x1.ownsRow wr.heap.size 83 3 v1 i (rkCells (R.take i))) := Lib.hid (own_eqR ho1 (Nat.zero_add _) (List.nil_append _)); obtain ⟨Aa, ca, rfl, -⟩ := own_sliceN O1.out; have O1a := Lib.hid (own_belowN O1.out (below_box (w := x1) (.cells #[.int .i64 k, .slice none 0 0, .int .i64 0] 83))); have L2 := Lib.hid (rk_lit x1 ⟨⟨k, [], 0⟩, none, 0⟩); have hxa : wr.heap.size ≤ (x1.alloc (.cells #[.int .i64 k, .slice none 0 0, .int .i64 0] 83)).heap.size := (by have := B1.out.size; simp; omega); have Ba : Hid (Below wr.heap.size wr (x1.alloc (.cells #[.int .i64 k, .slice none 0 0, .int .i64 0] 83))) := Lib.hid (B1.out.trans ((below_box _).mono B1.out.size)); clear ho1 hg1 hz1)
                  | (at_builtin; refine wpList_append_hasN rfl (.tmp 50) (.tmp 53) _ rfl 83 rk_elem (by omega) Try.underlying76 rfl O1a.out rfl L2.out (rkCells_one _) (by simp only [maxLen]; omega) (by omega) hxa ?_; intro v2 x2 ho2 hg2 hz2; have B2 : Hid (Below wr.heap.size wr x2) := Lib.hid (Ba.out.grown hg2 hxa (fun g hg => (O1a.out.lt g hg).1)); obtain ⟨Ab, cb, rfl, -⟩ := own_sliceN ho2; have O2 := Lib.hid ho2; have qx := (Hq.out x2 B2.out).1; have Src := Lib.hid (HD.out x2 (HSr.out.below B2.out)); have hx2 := B2.out.size; clear ho2 hg2 hz2)
                  | (at_builtin; refine wpList_append_hasN rfl (.tmp 56) (.tmp 62) _ rfl 83 rk_elem (by omega) Try.underlying76 rfl O2.out rfl Src.out (rkCells_one _) (by simp only [maxLen]; omega) (by omega) hx2 ?_; intro v3 x3 ho3 hg3 hz3; have B3 : Hid (Below wr.heap.size wr x3) := Lib.hid (B2.out.grown hg3 hx2 (fun g hg => (O2.out.lt g hg).1)); obtain ⟨g2, cc, rfl, -, -⟩ := own_some ho3 (by omega); obtain ⟨c5, f5⟩ := Hq.out x3 B3.out; obtain ⟨n2, hn2⟩ : ∃ n2, i + 1 + 0 = n2 := ⟨_, rfl⟩; rw [hn2] at ho3; obtain ⟨W, hW⟩ : ∃ W, x3.setCell ⟨rb, 2, none⟩ (.slice (some ⟨g2, 0, none⟩) n2 cc) = W := ⟨_, rfl⟩; have HI := Lib.hid (HFinI.out x3 W _ _ B3.out ho3 hn2.symm hW); have HT := Lib.hid (ready_ins HI.out Hn.out Hin.out (by rw [Nat.sub_self]; exact hn2) H1.out.2.2.2.1 HG.out Hp.out Hstop.out BW.out HTk.out); rw [hn2]; obtain ⟨⟨⟨q1, q2⟩, p0, p1⟩, ⟨d0, d1, d2⟩, e0, e1, e2⟩ := HT.out.K W (Below.refl _ _); have j6 : (i : Int) < (n2 : Int) := (by have := HT.out.il; omega); have j7 := HT.out.il; clear ho3 hg3 hz3 hn2)
                  | (at_builtin; refine wpList_append_hasN rfl (.tmp 66) (.tmp 74) _ rfl 23 rg_elem (by omega) Try.underlying26 rfl (World.ownsRow_nil W W.heap.size 23 2) rfl HT.out.Rw.2 (rgCells_one _) (by have := HT.out.len; simp only [maxLen]; omega) (by have := HT.out.len; omega) (Nat.le_refl _) ?_; intro v1 x1 ho1 hg1 hz1; have B1 : Hid (Below W.heap.size W x1) := Lib.hid ((Below.refl _ W).grown hg1 (Nat.le_refl _) (fun g hg => by cases hg)); rw [Nat.zero_add, List.nil_append] at ho1; obtain ⟨Aa, ca, rfl, -⟩ := own_sliceN ho1; have O1 := Lib.hid ho1; clear ho1 hg1 hz1))
                have S1 := HT.out.K x1 B1.out
                obtain ⟨⟨⟨q1, q2⟩, p0, p1⟩, ⟨d0, d1, d2⟩, e0, e1, e2⟩ := S1
                have bA : Below x1.heap.size x1 (x1.drew.alloc (.cells #[.string r.lo, .string r.hi] 23)) := (Below.refl _ x1).drew.alloc (Nat.le_refl _) _
                have HS3 : Hid (W.heap.size ≤ x1.heap.size) := Lib.hid B1.out.size
                go_region_held3 (fun wx => (wx.cell? ⟨rb, 1, none⟩ = some (.int .i64 now) ∧ wx.cell? ⟨rb, 2, none⟩ = some (.slice (some ⟨g2, 0, none⟩) n2 cc)) ∧ wx.cell? ⟨w.heap.size, 0, none⟩ = some (.string r.lo) ∧ wx.cell? ⟨w.heap.size, 1, none⟩ = some (.string r.hi))
                  (first | exact ⟨⟨q1, q2⟩, p0, p1⟩ | exact HT.out.Ks _ _ _ _ _ BB.out rfl | exact SB.out | exact (HT.out.K _ bA2.out).1 | exact (HT.out.K _ (B1.out.trans ((Below.refl _ x1).drew.mono HS3.out))).1 | exact (HT.out.K _ (B1.out.trans (bA.mono HS3.out))).1)
                  (first
                    | (refine step_append_hasN (by rfl) _ _ _ (by rfl) 23 rg_elem (by omega) Try.underlying26 (by rfl) (own_belowN O1.out bA) (by rfl) (rg_lit _ r) (rgCells_one [r]) (by have := HT.out.len; simp only [maxLen]; omega) (by have := HT.out.len; omega) (Nat.le_trans HS3.out bA.size) ?_; intro vA wA oA gA zA; obtain ⟨AA, cA, rfl, -, -, -⟩ := own_sliceN oA; have bA2 : Hid (Below W.heap.size W wA) := Lib.hid ((B1.out.trans (bA.mono HS3.out)).grown gA (Nat.le_trans HS3.out bA.size) (fun q hq => (World.ownsRow.lt O1.out q hq).1)))
                    | (go_at_call 20; refine (refLeast_any AA _ cA wA.heap.size (([] : List Rg) ++ [r]) wA (own_all oA rfl) (Nat.le_refl _) (by have := HT.out.len; omega)).mono ?_; rintro ee wB ⟨m1, vB, rfl, om, fm, lm, bm⟩; obtain ⟨AB, cB, rfl, -, -, -⟩ := om.slice; have BB : Hid (Below W.heap.size W wB) := Lib.hid (bA2.out.trans (bm.mono bA2.out.size)); have SB := Lib.hid ((HT.out.K _ BB.out).1); obtain ⟨-, ⟨y0, y1, y2⟩, z0, z1, z2⟩ := HT.out.K _ BB.out; have OB := Lib.hid (And.intro (own_baseN om bA2.out.size) fm)))
                obtain ⟨W4, hW4⟩ : ∃ W4, ((wB.setCell ⟨g2, i * 3, none⟩ (.int .i64 k)).setCell ⟨g2, i * 3 + 1, none⟩ (.slice AB m1.length cB)).setCell ⟨g2, i * 3 + 2, none⟩ (.int .i64 now) = W4 := ⟨_, rfl⟩
                have HE := Lib.hid (HT.out.Fin wB W4 AB m1 cB BB.out OB.out.1 OB.out.2 hW4)
                clear SB BB OB om fm lm bm y0 y1 y2 z0 z1 z2 oA gA zA bA bA2 q1 q2 p0 p1 d0 d1 d2 e0 e1 e2
                rw [hW4]
                go_wp2
                go_ret
                exact ⟨rfl, HE.out⟩
              · have hci2 : ¬ i = c := fun e => hci e.symm
                have Hin : Hid (i ≤ i) := Lib.hid hj
                have HSr : Hid (Has wr wr.heap.size (some a) (i * 3) (rkCells R)) := Lib.hid Hs.out.2
                have Hsrc : Hid (Has wr wr.heap.size (some a) (i * 3) (rkCells (R.take i))) := Lib.hid (by
                  rw [← rkCells_take R i]
                  exact Has.take HSr.out (by omega))
                have HD : Hid (∀ wx, Has wx wr.heap.size (some a) (i * 3) (rkCells R) → Has wx wr.heap.size (some (a.add (i * 3))) (0 * 3) (rkCells (R.drop i))) := Lib.hid fun wx hx => (by have h9 := (rks_from (c := c) (k := i) hx Hn.out (by omega)).2; rw [Nat.sub_self] at h9; exact h9)
                have Hq : Hid (∀ wx, Below wr.heap.size wr wx → (wx.cell? ⟨rb, 2, none⟩ = some (.slice (some a) i c) ∧ wx.frozen? ⟨rb, 2, none⟩ = false)) := Lib.hid fun wx hx => by
                  have := (H2a.out.1.below hx).cells
                  exact ⟨this.1.2.2, this.2.2⟩
                have HFinI : Hid (∀ x5 W v5 m, Below wr.heap.size wr x5 → x5.ownsRow wr.heap.size 83 3 v5 m (rkCells (R.take i) ++ rkCells [⟨⟨k, [], 0⟩, none, 0⟩] ++ rkCells (R.drop i)) → m = i + 1 + 0 → x5.setCell ⟨rb, 2, none⟩ v5 = W →
                    RfAt W (addF F wr W) rb v5 lease now (R.take i ++ [⟨⟨k, [], 0⟩, none, 0⟩] ++ R.drop i) ∧ KeptF F wr W ∧ Box W w.heap.size 23 #[.string r.lo, .string r.hi]) := Lib.hid fun x5 W v5 m hb ho hm hW => by
                  have hlen : (R.take i ++ [(⟨⟨k, [], 0⟩, none, 0⟩ : RE)] ++ R.drop i).length = m := by
                    rw [hm, List.length_append, List.length_append, List.length_take, List.length_drop, Hn.out, List.length_singleton]
                    have := Hin.out
                    omega
                  obtain ⟨a1, a2⟩ := H2a.out.1.setL hb (v' := v5) (R' := R.take i ++ [⟨⟨k, [], 0⟩, none, 0⟩] ++ R.drop i) (by unfold OwnRks; exact own_eqR ho hlen.symm (by rw [rkCells_app, rkCells_app])) (fun e he => by
                    have he' : e ∈ R ∨ e = ⟨⟨k, [], 0⟩, none, 0⟩ := by
                      rcases List.mem_append.1 he with he | he
                      · rcases List.mem_append.1 he with he | he
                        · exact .inl (List.mem_of_mem_take he)
                        · exact .inr (by simpa using he)
                      · exact .inl (List.mem_of_mem_drop he)
                    rcases he' with he' | rfl
                    · exact ⟨ownL_keep (H2a.out.1.rows e he') fun g hg => hb.block g (H2a.out.1.lt g (H2a.out.1.eF e he' g hg)), fun g hg => .inl (H2a.out.1.eF e he' g hg)⟩
                    · exact ⟨OwnRgs.nil _ _, fun g hg => by cases hg⟩) hW
                  have y2 := H2a.out.2.below hb H2a.out.2.lt
                  have hne : w.heap.size ≠ rb := types_ne H2a.out.2 H2a.out.1.box typesR.2.1
                  exact ⟨a1, a2, (hW ▸ Below.heap_setCell x5 ⟨rb, 2, none⟩ v5 w.heap.size hne : W.heap[w.heap.size]? = x5.heap[w.heap.size]?).trans y2⟩
                have j0 : (0 : Int) ≤ (i : Int) := by omega
                have j2 : ¬ (i : Int) < 0 := by omega
                have j3 : (i : Int) ≤ (c : Int) := by omega
                have j4 : (i : Int) ≤ (i : Int) := by omega
                have j5 : (i : Int) ≤ (c : Int) := by omega
                go_wp2_with (first
                  | (at_builtin; refine wpList_append_hasN rfl (.tmp 42) (.tmp 48) _ rfl 83 rk_elem (by omega) Try.underlying76 rfl (World.ownsRow_nil wr wr.heap.size 83 3) rfl Hsrc.out (rkCells_one _) (by simp only [maxLen]; omega) (by omega) (Nat.le_refl _) ?_; intro v1 x1 ho1 hg1 hz1; have B1 : Hid (Below wr.heap.size wr x1) := Lib.hid ((Below.refl _ wr).grown hg1 (Nat.le_refl _) (fun g hg => by cases hg)); have O1 : Hid (x1.ownsRow wr.heap.size 83 3 v1 i (rkCells (R.take i))) := Lib.hid (own_eqR ho1 (Nat.zero_add _) (List.nil_append _)); obtain ⟨Aa, ca, rfl, -⟩ := own_sliceN O1.out; have O1a := Lib.hid (own_belowN O1.out (below_box (w := x1) (.cells #[.int .i64 k, .slice none 0 0, .int .i64 0] 83))); have L2 := Lib.hid (rk_lit x1 ⟨⟨k, [], 0⟩, none, 0⟩); have hxa : wr.heap.size ≤ (x1.alloc (.cells #[.int .i64 k, .slice none 0 0, .int .i64 0] 83)).heap.size := (by have := B1.out.size; simp; omega); have Ba : Hid (Below wr.heap.size wr (x1.alloc (.cells #[.int .i64 k, .slice none 0 0, .int .i64 0] 83))) := Lib.hid (B1.out.trans ((below_box _).mono B1.out.size)); clear ho1 hg1 hz1)
                  | (at_builtin; refine wpList_append_hasN rfl (.tmp 50) (.tmp 53) _ rfl 83 rk_elem (by omega) Try.underlying76 rfl O1a.out rfl L2.out (rkCells_one _) (by simp only [maxLen]; omega) (by omega) hxa ?_; intro v2 x2 ho2 hg2 hz2; have B2 : Hid (Below wr.heap.size wr x2) := Lib.hid (Ba.out.grown hg2 hxa (fun g hg => (O1a.out.lt g hg).1)); obtain ⟨Ab, cb, rfl, -⟩ := own_sliceN ho2; have O2 := Lib.hid ho2; have qx := (Hq.out x2 B2.out).1; have Src := Lib.hid (HD.out x2 (HSr.out.below B2.out)); have hx2 := B2.out.size; clear ho2 hg2 hz2)
                  | (at_builtin; refine wpList_append_hasN rfl (.tmp 56) (.tmp 62) _ rfl 83 rk_elem (by omega) Try.underlying76 rfl O2.out rfl Src.out (rkCells_one _) (by simp only [maxLen]; omega) (by omega) hx2 ?_; intro v3 x3 ho3 hg3 hz3; have B3 : Hid (Below wr.heap.size wr x3) := Lib.hid (B2.out.grown hg3 hx2 (fun g hg => (O2.out.lt g hg).1)); obtain ⟨g2, cc, rfl, -, -⟩ := own_some ho3 (by omega); obtain ⟨c5, f5⟩ := Hq.out x3 B3.out; obtain ⟨n2, hn2⟩ : ∃ n2, i + 1 + 0 = n2 := ⟨_, rfl⟩; rw [hn2] at ho3; obtain ⟨W, hW⟩ : ∃ W, x3.setCell ⟨rb, 2, none⟩ (.slice (some ⟨g2, 0, none⟩) n2 cc) = W := ⟨_, rfl⟩; have HI := Lib.hid (HFinI.out x3 W _ _ B3.out ho3 hn2.symm hW); have HT := Lib.hid (ready_ins HI.out Hn.out Hin.out (by rw [Nat.sub_self]; exact hn2) H1.out.2.2.2.1 HG.out Hp.out Hstop.out BW.out HTk.out); rw [hn2]; obtain ⟨⟨⟨q1, q2⟩, p0, p1⟩, ⟨d0, d1, d2⟩, e0, e1, e2⟩ := HT.out.K W (Below.refl _ _); have j6 : (i : Int) < (n2 : Int) := (by have := HT.out.il; omega); have j7 := HT.out.il; clear ho3 hg3 hz3 hn2)
                  | (at_builtin; refine wpList_append_hasN rfl (.tmp 66) (.tmp 74) _ rfl 23 rg_elem (by omega) Try.underlying26 rfl (World.ownsRow_nil W W.heap.size 23 2) rfl HT.out.Rw.2 (rgCells_one _) (by have := HT.out.len; simp only [maxLen]; omega) (by have := HT.out.len; omega) (Nat.le_refl _) ?_; intro v1 x1 ho1 hg1 hz1; have B1 : Hid (Below W.heap.size W x1) := Lib.hid ((Below.refl _ W).grown hg1 (Nat.le_refl _) (fun g hg => by cases hg)); rw [Nat.zero_add, List.nil_append] at ho1; obtain ⟨Aa, ca, rfl, -⟩ := own_sliceN ho1; have O1 := Lib.hid ho1; clear ho1 hg1 hz1))
                have S1 := HT.out.K x1 B1.out
                obtain ⟨⟨⟨q1, q2⟩, p0, p1⟩, ⟨d0, d1, d2⟩, e0, e1, e2⟩ := S1
                have bA : Below x1.heap.size x1 (x1.drew.alloc (.cells #[.string r.lo, .string r.hi] 23)) := (Below.refl _ x1).drew.alloc (Nat.le_refl _) _
                have HS3 : Hid (W.heap.size ≤ x1.heap.size) := Lib.hid B1.out.size
                go_region_held3 (fun wx => (wx.cell? ⟨rb, 1, none⟩ = some (.int .i64 now) ∧ wx.cell? ⟨rb, 2, none⟩ = some (.slice (some ⟨g2, 0, none⟩) n2 cc)) ∧ wx.cell? ⟨w.heap.size, 0, none⟩ = some (.string r.lo) ∧ wx.cell? ⟨w.heap.size, 1, none⟩ = some (.string r.hi))
                  (first | exact ⟨⟨q1, q2⟩, p0, p1⟩ | exact HT.out.Ks _ _ _ _ _ BB.out rfl | exact SB.out | exact (HT.out.K _ bA2.out).1 | exact (HT.out.K _ (B1.out.trans ((Below.refl _ x1).drew.mono HS3.out))).1 | exact (HT.out.K _ (B1.out.trans (bA.mono HS3.out))).1)
                  (first
                    | (refine step_append_hasN (by rfl) _ _ _ (by rfl) 23 rg_elem (by omega) Try.underlying26 (by rfl) (own_belowN O1.out bA) (by rfl) (rg_lit _ r) (rgCells_one [r]) (by have := HT.out.len; simp only [maxLen]; omega) (by have := HT.out.len; omega) (Nat.le_trans HS3.out bA.size) ?_; intro vA wA oA gA zA; obtain ⟨AA, cA, rfl, -, -, -⟩ := own_sliceN oA; have bA2 : Hid (Below W.heap.size W wA) := Lib.hid ((B1.out.trans (bA.mono HS3.out)).grown gA (Nat.le_trans HS3.out bA.size) (fun q hq => (World.ownsRow.lt O1.out q hq).1)))
                    | (go_at_call 20; refine (refLeast_any AA _ cA wA.heap.size (([] : List Rg) ++ [r]) wA (own_all oA rfl) (Nat.le_refl _) (by have := HT.out.len; omega)).mono ?_; rintro ee wB ⟨m1, vB, rfl, om, fm, lm, bm⟩; obtain ⟨AB, cB, rfl, -, -, -⟩ := om.slice; have BB : Hid (Below W.heap.size W wB) := Lib.hid (bA2.out.trans (bm.mono bA2.out.size)); have SB := Lib.hid ((HT.out.K _ BB.out).1); obtain ⟨-, ⟨y0, y1, y2⟩, z0, z1, z2⟩ := HT.out.K _ BB.out; have OB := Lib.hid (And.intro (own_baseN om bA2.out.size) fm)))
                obtain ⟨W4, hW4⟩ : ∃ W4, ((wB.setCell ⟨g2, i * 3, none⟩ (.int .i64 k)).setCell ⟨g2, i * 3 + 1, none⟩ (.slice AB m1.length cB)).setCell ⟨g2, i * 3 + 2, none⟩ (.int .i64 now) = W4 := ⟨_, rfl⟩
                have HE := Lib.hid (HT.out.Fin wB W4 AB m1 cB BB.out OB.out.1 OB.out.2 hW4)
                clear SB BB OB om fm lm bm y0 y1 y2 z0 z1 z2 oA gA zA bA bA2 q1 q2 p0 p1 d0 d1 d2 e0 e1 e2
                rw [hW4]
                go_wp2
                go_ret
                exact ⟨rfl, HE.out⟩
      · have hil : i < n := by have := (List.getElem?_eq_some_iff.1 hi).1; have := Hn.out; omega
        have hown := H2.out.1.own
        unfold OwnRks at hown
        rw [Hn.out] at hown
        obtain ⟨g, c, rfl, -, hnc⟩ := own_some hown (by omega)
        have HP : Hid (rl R = hasL k (rl R) ∧ rangesT k (rl R) = p.p.L ∧ p.p.n = k) := Lib.hid (by
          have hg := get_at H1.out.2.2.2.1 hi hk
          unfold hasL rangesT
          rw [hg]
          exact ⟨rfl, rfl, hk⟩)
        have HT : Hid (TakeReady w w3 F rb g n c i now k lease r R p) := Lib.hid (TakeReady.of (H2.out.1.mono (fun i hi => .inl hi) (fun i hi => hi.elim (H2.out.1.lt i) (fun hi => hi.2))) Hn.out hi H2.out.2 (KeptF.of BW.out) (H1.out.2.2.2.2 p (List.mem_of_getElem? hi)) H1.out.2.2.2.1 HP.out HTk.out)
        have j2 : ¬ (i : Int) < 0 := by omega
        clear hi hk hown hnc q0 q1 q2 H2
        obtain ⟨⟨⟨q1, q2⟩, p0, p1⟩, ⟨d0, d1, d2⟩, e0, e1, e2⟩ := HT.out.K w3 (Below.refl _ _)
        have j0 : (0 : Int) ≤ (i : Int) := by omega
        have j1 : (i : Int) < (n : Int) := by omega
        go_wp2_with (at_builtin; go_loud (refine wpList_append_hasN rfl (.tmp 66) (.tmp 74) _ rfl 23 rg_elem (by omega) Try.underlying26 rfl (World.ownsRow_nil w3 w3.heap.size 23 2) rfl HT.out.Rw.2 (rgCells_one _) (by have := HT.out.len; simp only [maxLen]; omega) (by have := HT.out.len; omega) (Nat.le_refl _) ?_; intro v1 x1 ho1 hg1 hz1; have B1 : Hid (Below w3.heap.size w3 x1) := Lib.hid ((Below.refl _ w3).grown hg1 (Nat.le_refl _) (fun g hg => by cases hg)); rw [Nat.zero_add, List.nil_append] at ho1; obtain ⟨Aa, ca, rfl, -⟩ := own_sliceN ho1; have O1 := Lib.hid ho1; clear ho1 hg1 hz1))
        have S1 := HT.out.K x1 B1.out
        obtain ⟨⟨⟨q1, q2⟩, p0, p1⟩, ⟨d0, d1, d2⟩, e0, e1, e2⟩ := S1
        have bA : Below x1.heap.size x1 (x1.drew.alloc (.cells #[.string r.lo, .string r.hi] 23)) := (Below.refl _ x1).drew.alloc (Nat.le_refl _) _
        have HS3 : Hid (w3.heap.size ≤ x1.heap.size) := Lib.hid B1.out.size
        go_region_held3 (fun wx => (wx.cell? ⟨rb, 1, none⟩ = some (.int .i64 now) ∧ wx.cell? ⟨rb, 2, none⟩ = some (.slice (some ⟨g, 0, none⟩) n c)) ∧ wx.cell? ⟨w.heap.size, 0, none⟩ = some (.string r.lo) ∧ wx.cell? ⟨w.heap.size, 1, none⟩ = some (.string r.hi))
          (first | exact ⟨⟨q1, q2⟩, p0, p1⟩ | exact HT.out.Ks _ _ _ _ _ BB.out rfl | exact SB.out | exact (HT.out.K _ bA2.out).1 | exact (HT.out.K _ (B1.out.trans ((Below.refl _ x1).drew.mono HS3.out))).1 | exact (HT.out.K _ (B1.out.trans (bA.mono HS3.out))).1)
          (first
            | (refine step_append_hasN (by rfl) _ _ _ (by rfl) 23 rg_elem (by omega) Try.underlying26 (by rfl) (own_belowN O1.out bA) (by rfl) (rg_lit _ r) (rgCells_one [r]) (by have := HT.out.len; simp only [maxLen]; omega) (by have := HT.out.len; omega) (Nat.le_trans HS3.out bA.size) ?_; intro vA wA oA gA zA; obtain ⟨AA, cA, rfl, -, -, -⟩ := own_sliceN oA; have bA2 : Hid (Below w3.heap.size w3 wA) := Lib.hid ((B1.out.trans (bA.mono HS3.out)).grown gA (Nat.le_trans HS3.out bA.size) (fun q hq => (World.ownsRow.lt O1.out q hq).1)))
            | (go_at_call 20; refine (refLeast_any AA _ cA wA.heap.size (p.p.L ++ [r]) wA (own_all oA rfl) (Nat.le_refl _) (by have := HT.out.len; omega)).mono ?_; rintro ee wB ⟨m1, vB, rfl, om, fm, lm, bm⟩; obtain ⟨AB, cB, rfl, -, -, -⟩ := om.slice; have BB : Hid (Below w3.heap.size w3 wB) := Lib.hid (bA2.out.trans (bm.mono bA2.out.size)); have SB := Lib.hid ((HT.out.K _ BB.out).1); obtain ⟨-, ⟨y0, y1, y2⟩, z0, z1, z2⟩ := HT.out.K _ BB.out; have OB := Lib.hid (And.intro (own_baseN om bA2.out.size) fm)))
        obtain ⟨W4, hW4⟩ : ∃ W4, ((wB.setCell ⟨g, i * 3, none⟩ (.int .i64 k)).setCell ⟨g, i * 3 + 1, none⟩ (.slice AB m1.length cB)).setCell ⟨g, i * 3 + 2, none⟩ (.int .i64 now) = W4 := ⟨_, rfl⟩
        have HE := Lib.hid (HT.out.Fin wB W4 AB m1 cB BB.out OB.out.1 OB.out.2 hW4)
        clear SB BB OB om fm lm bm y0 y1 y2 z0 z1 z2 oA gA zA bA bA2 q1 q2 p0 p1 d0 d1 d2 e0 e1 e2
        rw [hW4]
        go_wp2
        go_ret
        exact ⟨rfl, HE.out⟩
end
end Go.Proofs.Ytijcaefpainhcaa

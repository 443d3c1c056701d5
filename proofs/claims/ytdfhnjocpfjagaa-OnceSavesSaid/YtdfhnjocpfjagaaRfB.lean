/- The document's table of layer 17: raise. Condition: the table is in memory. -/
import Derived.Test.YtdfhnjocpfjagaaRfA
import Derived.Deep.DeepCutAuto
namespace Go.Proofs.Ytdfhnjocpfjagaa
open Go.RowKit

theorem HasG.cut {α : Type} {f : α → List Value} {s : Nat} (hc : CellsOf f s) (hs : 0 < s) {w : World} {B n : Nat} {A : Option Addr} {l : List α} (h : HasG f s w B A n l) {k c : Nat} (hk : k ≤ n) (hnc : n ≤ c) :
    Has w B (if c = k then A else A.map (·.add (k * s))) ((n - k) * s) (gCells f (l.drop k)) := by
  have h1 := h.2.cut (k := k * s) (cap := c * s) (Nat.mul_le_mul_right s hk) (Nat.mul_le_mul_right s hnc)
  rw [gCells_drop hc, ← Nat.sub_mul] at h1
  by_cases e : c = k
  · subst e
    rw [if_pos rfl] at h1 ⊢
    exact h1
  · have e2 : c * s ≠ k * s := fun e3 => e (Nat.eq_of_mul_eq_mul_right hs e3)
    rw [if_neg e2] at h1
    rw [if_neg e]
    exact h1
theorem insG_splitA {α : Type} {n : Int} {r : α} : ∀ {a b : List (Int × α)}, (∀ e ∈ a, e.1 < n) → (∀ e ∈ b, n < e.1) → insG n r (a ++ b) = a ++ (n, r) :: b
  | [], [], _, _ => rfl
  | [], e :: b, _, hb => by
    have := hb e (by simp)
    show (if n < e.1 then (n, r) :: e :: b else e :: insG n r b) = _
    rw [if_pos this]
    rfl
  | e :: a, b, ha, hb => by
    have := ha e (by simp)
    have ih := insG_splitA (a := a) (b := b) (n := n) (r := r) (fun x hx => ha x (by simp [hx])) hb
    show (if n < e.1 then (n, r) :: e :: (a ++ b) else e :: insG n r (a ++ b)) = _
    rw [if_neg (by omega), ih]
    rfl
theorem rise_drop {Q : List (Int × Int)} {j : Nat} {e : Int × Int} (hr : RiseG Q) (he : Q[j]? = some e) : ∀ y ∈ Q.drop (j + 1), e.1 < y.1 := by
  have h1 : (Q.drop j).Pairwise fun p q => p.1 < q.1 := List.Pairwise.sublist (List.drop_sublist _ _) hr
  have hj := (List.getElem?_eq_some_iff.1 he).1
  rw [List.drop_eq_getElem_cons hj] at h1
  have h2 := (List.pairwise_cons.1 h1).1
  have h3 : Q[j] = e := (List.getElem?_eq_some_iff.1 he).2
  rwa [h3] at h2
theorem putG_mid {Q a b m : List (Int × Int)} {c f : Int} (hQ : Q = a ++ m ++ b) (hm : ∀ e ∈ m, e.1 = c) (ha : ∀ e ∈ a, e.1 < c) (hb : ∀ e ∈ b, c < e.1) : putG c f Q = a ++ (c, f) :: b := by
  unfold putG delG
  rw [hQ, List.filter_append, List.filter_append]
  have h1 : a.filter (fun e => !decide (e.1 = c)) = a := List.filter_eq_self.2 fun e he => by have := ha e he; simp; omega
  have h2 : b.filter (fun e => !decide (e.1 = c)) = b := List.filter_eq_self.2 fun e he => by have := hb e he; simp; omega
  have h3 : m.filter (fun e => !decide (e.1 = c)) = [] := List.filter_eq_nil_iff.2 fun e he => by simp [hm e he]
  rw [h1, h2, h3, List.append_nil]
  exact insG_splitA ha hb
theorem putG_lt {Q : List (Int × Int)} {c f : Int} {j : Nat} (hr : RiseG Q) (ha : ∀ e ∈ Q.take j, e.1 < c) (hb : ∀ e, Q[j]? = some e → c < e.1) : putG c f Q = Q.take j ++ (c, f) :: Q.drop j := by
  refine putG_mid (m := []) (by simp) (by simp) ha fun e he => ?_
  cases hj : Q[j]? with
  | none =>
    have : Q.length ≤ j := List.getElem?_eq_none_iff.1 hj
    rw [List.drop_eq_nil_of_le this] at he
    cases he
  | some x =>
    have hx := hb x hj
    have hjl := (List.getElem?_eq_some_iff.1 hj).1
    rw [List.drop_eq_getElem_cons hjl] at he
    rcases List.mem_cons.1 he with rfl | he
    · rw [(List.getElem?_eq_some_iff.1 hj).2]; exact hx
    · have := rise_drop hr hj e he; omega
theorem putG_eq {Q : List (Int × Int)} {c f : Int} {j : Nat} {x : Int × Int} (hr : RiseG Q) (ha : ∀ e ∈ Q.take j, e.1 < c) (hx : Q[j]? = some x) (hxc : x.1 = c) : putG c f Q = Q.take j ++ (c, f) :: Q.drop (j + 1) := by
  have hjl := (List.getElem?_eq_some_iff.1 hx).1
  refine putG_mid (m := [x]) ?_ (by simp [hxc]) ha fun e he => ?_
  · have h1 := (List.take_append_drop j Q).symm
    rw [List.drop_eq_getElem_cons hjl, (List.getElem?_eq_some_iff.1 hx).2] at h1
    simpa using h1
  · have := rise_drop hr hx e he; omega
theorem below_drF {B : Nat} {a w : World} (h : Below B a w) (n : Nat) : Below B a (w.drewN n) := ⟨h.os, h.tape, h.output, h.size, h.block⟩
section
variable {F : Nat → Prop} {w : World} {rb : Nat} {v u : Value} {L : List OE} {Q : List (Int × Int)}
theorem oe_fix {w : World} {B n j : Nat} {a : Addr} {e : OE} (h : HasG OE.cells 7 w B (some a) n L) (hj : j < n) (he : L[j]? = some e) : ∀ wx, Below B w wx → wx.cell? (a.add (j * 7)) = some (.int .i64 e.c) ∧ wx.cell? ⟨(a.add (j * 7)).block, (a.add (j * 7)).off + 1, none⟩ = some (.int .i64 e.n) ∧
    (wx.cell? ⟨(a.add (j * 7)).block, (a.add (j * 7)).off + 2, none⟩ = some (.int .i64 e.p.code) ∧ wx.cell? ⟨(a.add (j * 7)).block, (a.add (j * 7)).off + 3, none⟩ = some (.bool e.p.there) ∧ wx.cell? ⟨(a.add (j * 7)).block, (a.add (j * 7)).off + 4, none⟩ = some (.slice e.A e.p.rc.length e.d) ∧ wx.cell? ⟨(a.add (j * 7)).block, (a.add (j * 7)).off + 5, none⟩ = some (.slice e.X 0 e.y) ∧ wx.cell? ⟨(a.add (j * 7)).block, (a.add (j * 7)).off + 6, none⟩ = some (.int .i64 e.p.id)) := fun wx hx => by
  obtain ⟨a2, e2, h1, -, h2, ⟨h3, h4⟩, h5⟩ := oe_cell (h.belowOf hx (Nat.le_refl _)) hj
  injection h1 with h1
  subst h1
  rw [he] at h2
  injection h2 with h2
  subst h2
  exact ⟨h3, h4, h5⟩
theorem fl_fix {w : World} {B n j : Nat} {a : Addr} {e : Int × Int} (h : HasG flCells 2 w B (some a) n Q) (hj : j < n) (he : Q[j]? = some e) : ∀ wx, Below B w wx → wx.cell? (a.add (j * 2)) = some (.int .i64 e.1) ∧ wx.cell? ⟨(a.add (j * 2)).block, (a.add (j * 2)).off + 1, none⟩ = some (.int .i64 e.2) := fun wx hx => by
  obtain ⟨a2, e2, h1, -, h2, h3⟩ := fl_cell (h.belowOf hx (Nat.le_refl _)) hj
  injection h1 with h1
  subst h1
  rw [he] at h2
  injection h2 with h2
  subst h2
  exact h3
/-- the table's box has got another row of floors -/
theorem ref_putQ {w7 : World} {u7 : Value} {Q' : List (Int × Int)} (h : RefM w F rb v u L Q) (hb : Below w.heap.size w w7) (ho : w7.ownsRow w.heap.size 142 2 u7 Q'.length (gCells flCells Q')) :
    RefM (w7.setCell ⟨rb, 1, none⟩ u7) (addF F w (w7.setCell ⟨rb, 1, none⟩ u7)) rb v u7 L Q' ∧ KeptF (fun i => i = rb) w (w7.setCell ⟨rb, 1, none⟩ u7) ∧ KV w (w7.setCell ⟨rb, 1, none⟩ u7) := by
  have hlt := h.box.lt
  have hbx := h.box.below hb hlt
  have kk : KeptF (fun i => i = rb) w (w7.setCell ⟨rb, 1, none⟩ u7) := (KeptF.of hb).trans0 (KeptF.grown (grown_set w7 rb 1 u7) rfl)
  have kv : KV w (w7.setCell ⟨rb, 1, none⟩ u7) := (KV.of hb).trans fun j ds hj => Below.heap_setCell w7 ⟨rb, 1, none⟩ u7 j (types_ne hj hbx typesR.2.2.1)
  have hs7 : (w7.setCell ⟨rb, 1, none⟩ u7).heap.size = w7.heap.size := by simp
  refine ⟨⟨.inl h.rF, fun g hg => .inl (h.vF g hg), fun g hg => .inr ⟨(ho.lt g hg).1, by rw [hs7]; exact (ho.lt g hg).2⟩, fun i hi => hi.elim (fun hi => Nat.lt_of_lt_of_le (h.lt i hi) kk.size) fun hi => hi.2, by simpa using hbx.set_ 1 u7, ?_, ?_, fun e he => kv.own (h.rows e he)⟩, kk, kv⟩
  · refine ownL_keep h.ones fun g hg => kk.block g (h.lt g (h.vF g hg)) fun e => ?_
    obtain ⟨cs, hcs⟩ := ownL_type h.ones hg
    exact types_ne hcs h.box typesR.1 e
  · exact own_baseN (ownL_keep ho fun g hg => Below.heap_setCell w7 ⟨rb, 1, none⟩ u7 g fun e => by have := (ho.lt g hg).1; simp only at e; omega) (Nat.zero_le _)
/-- the table's box has got another row of answers -/
theorem ref_putL {w7 : World} {v7 : Value} {L' : List OE} (h : RefM w F rb v u L Q) (hb : Below w.heap.size w w7) (ho : w7.ownsRow w.heap.size 133 7 v7 L'.length (gCells OE.cells L')) (hr : ∀ e ∈ L', OwnVals w 0 (.slice e.A e.p.rc.length e.d) e.p.rc) :
    RefM (w7.setCell ⟨rb, 0, none⟩ v7) (addF F w (w7.setCell ⟨rb, 0, none⟩ v7)) rb v7 u L' Q ∧ KeptF (fun i => i = rb) w (w7.setCell ⟨rb, 0, none⟩ v7) ∧ KV w (w7.setCell ⟨rb, 0, none⟩ v7) := by
  have hlt := h.box.lt
  have hbx := h.box.below hb hlt
  have kk : KeptF (fun i => i = rb) w (w7.setCell ⟨rb, 0, none⟩ v7) := (KeptF.of hb).trans0 (KeptF.grown (grown_set w7 rb 0 v7) rfl)
  have kv : KV w (w7.setCell ⟨rb, 0, none⟩ v7) := (KV.of hb).trans fun j ds hj => Below.heap_setCell w7 ⟨rb, 0, none⟩ v7 j (types_ne hj hbx typesR.2.2.1)
  have hs7 : (w7.setCell ⟨rb, 0, none⟩ v7).heap.size = w7.heap.size := by simp
  refine ⟨⟨.inl h.rF, fun g hg => .inr ⟨(ho.lt g hg).1, by rw [hs7]; exact (ho.lt g hg).2⟩, fun g hg => .inl (h.uF g hg), fun i hi => hi.elim (fun hi => Nat.lt_of_lt_of_le (h.lt i hi) kk.size) fun hi => hi.2, by simpa using hbx.set_ 0 v7, ?_, ?_, fun e he => kv.own (hr e he)⟩, kk, kv⟩
  · exact own_baseN (ownL_keep ho fun g hg => Below.heap_setCell w7 ⟨rb, 0, none⟩ v7 g fun e => by have := (ho.lt g hg).1; simp only at e; omega) (Nat.zero_le _)
  · refine ownL_keep h.fls fun g hg => kk.block g (h.lt g (h.uF g hg)) fun e => ?_
    obtain ⟨cs, hcs⟩ := ownL_type h.fls hg
    exact types_ne hcs h.box typesR.2.1 e
/-- the document's table has become R; nothing but its box has turned -/
def RefPost (F : Nat → Prop) (rb : Nat) (R : Rf) (w : World) (e : Ending) (w' : World) : Prop := e = .returned (.tuple #[]) ∧ RefAt w' (addF F w w') rb R ∧ KeptF (fun i => i = rb) w w' ∧ KV w w'
theorem RefM.two {w1 w2 : World} (h : RefM w2 (addF (addF F w w1) w1 w2) rb v u L Q) (h1 : w.heap.size ≤ w1.heap.size) (h2 : w1.heap.size ≤ w2.heap.size) : RefM w2 (addF F w w2) rb v u L Q := by
  rw [addF_two h1 h2] at h
  exact h
theorem KeptF.two {w1 w2 : World} (h : KeptF (fun i => i = rb) w w1) (k : KeptF (fun i => i = rb) w1 w2) : KeptF (fun i => i = rb) w w2 := h.trans0 k
theorem raise_lt {c f : Int} {X : List On} (h : flR c Q < f) : raiseR c f ⟨X, Q⟩ = ⟨X.filter (keepFl c (putG c f Q)), putG c f Q⟩ := by unfold raiseR; rw [if_pos h]
theorem raise_ge {c f : Int} {X : List On} (h : ¬ flR c Q < f) : raiseR c f ⟨X, Q⟩ = ⟨X.filter (keepFl c Q), Q⟩ := by unfold raiseR; rw [if_neg h]
end
section
variable {F : Nat → Prop} {w : World} {rb : Nat} {v u : Value} {L : List OE} {Q : List (Int × Int)}
set_option maxRecDepth 100000 in
set_option maxHeartbeats 12800000 in
theorem refRaise_any (h : RefM w F rb v u L Q) (hQ : Q.length ≤ 50000) (hL : L.length ≤ 50000) (hr : RiseG Q) (c f : Int) : Calls Try.prog 97 #[.pointer (some ⟨rb, 0, none⟩), .int .i64 c, .int .i64 f] w (RefPost F rb (raiseR c f ⟨L.map OE.one, Q⟩) w) := by
  have Hfl := Lib.hid (refFloor_any h (by omega) hr c)
  have H0 := Lib.hid h
  have Hr := Lib.hid hr
  obtain ⟨⟨-, q1⟩, -, -⟩ := h.cells
  obtain ⟨A, d, rfl, hNd, -, hG⟩ := h.fls.slice
  obtain ⟨N, hN⟩ : ∃ N, Q.length = N := ⟨_, rfl⟩
  rw [hN] at hG q1 hQ hNd
  have HG := Lib.hid hG
  have HN := Lib.hid hN
  have HQ : Hid (∀ wx, Below w.heap.size w wx → wx.cell? ⟨rb, 1, none⟩ = some (.slice A N d) ∧ wx.frozen? ⟨rb, 1, none⟩ = false) := Lib.hid fun wx hx => ⟨(hx.cell h.box.lt).trans q1, (h.box.below hx h.box.lt).frozen 1⟩
  clear h hG hN hr
  go_enter Try.func97, Try.ntmps97
  go_wp2_with fail
  refine Hfl.out.mono ?_
  rintro e w ⟨rfl, hq⟩
  subst hq
  go_upto_if 14 with fail
  go_cut [0] (fun t wx => t = .pointer (some ⟨rb, 0, none⟩) ∧ ∃ (u1 : Value) (Q1 : List (Int × Int)), Hid (RefM wx (addF F w wx) rb v u1 L Q1 ∧ KeptF (fun i => i = rb) w wx ∧ KV w wx ∧ RiseG Q1 ∧ Q1.length ≤ 60000 ∧ raiseR c f ⟨L.map OE.one, Q⟩ = ⟨(L.map OE.one).filter (keepFl c Q1), Q1⟩))
  case first =>
    by_cases hlt : flR c Q < f
    · rw [decide_eq_true hlt]
      have Hlt := Lib.hid hlt
      clear hlt
      go_wp2
      go_loopw [6, 7] (fun o iv wr => ∃ j : Nat, j ≤ N ∧ iv = .int .i64 (j : Int) ∧ Hid (wr.ownsRow w.heap.size 142 2 o j (gCells flCells (Q.take j)) ∧ (∀ x ∈ Q.take j, x.1 < c) ∧ Below w.heap.size w wr)) (fun _ iv _ => N - (intOf iv).toNat)
      case atStart => exact ⟨0, by omega, rfl, Lib.hid ⟨World.ownsRow_nil _ _ _ _, by simp, Below.refl _ _⟩⟩
      case round =>
        obtain ⟨j, hj, rfl, HR⟩ := hrel
        obtain ⟨A6, c6, rfl, -, -, -⟩ := own_sliceN HR.out.1
        have q1 := (HQ.out _ HR.out.2.2).1
        have hsz := HR.out.2.2.size
        by_cases hjN : j < N
        · obtain ⟨a, x, rfl, hab, he, c0, c1⟩ := fl_cell (HG.out.belowOf HR.out.2.2 (Nat.le_refl _)) hjN
          have HX := Lib.hid (fl_fix HG.out hjN he)
          have He := Lib.hid he
          have hj0 : (0 : Int) ≤ (j : Int) := by omega
          have hj1 : (j : Int) < (N : Int) := by omega
          clear he
          by_cases hx : x.1 < c
          · obtain ⟨wL, hwL⟩ : ∃ wL, wr.alloc (.cells #[.int .i64 x.1, .int .i64 x.2] 142) = wL := ⟨_, rfl⟩
            have HL : Hid (Has wL (wr.heap.size + 1) (some ⟨wr.heap.size, 0, none⟩) (1 * 2) (gCells flCells [x])) := Lib.hid (hwL ▸ Has.lit wr #[.int .i64 x.1, .int .i64 x.2] 142)
            have uL : Below wr.heap.size wr wL := hwL ▸ below_box _
            have HO := Lib.hid (own_belowN HR.out.1 uL)
            have HB := Lib.hid (HR.out.2.2.trans (uL.mono hsz))
            have hSL : w.heap.size ≤ wL.heap.size := HB.out.size
            clear uL
            go_wp2_with (at_builtin; go_loud (refine wpList_append_hasN rfl (.tmp 34) (.tmp 42) _ rfl 142 fl_elem (by omega) Try.underlying76 rfl HO.out rfl HL.out (gCells_one fl_cells [x]) (by simp only [maxLen]; omega) (by omega) hSL ?_; intro v7 w7 o7 g7 z7; have HE := Lib.hid (And.intro o7 (HB.out.grown g7 hSL (fun g hg => (HO.out.lt g hg).1))); clear o7 g7 z7))
            go_roundw
            case rel =>
              have ht : Q.take (j + 1) = Q.take j ++ [x] := by rw [List.take_add_one, He.out]; rfl
              refine ⟨j + 1, by omega, by go_num, Lib.hid ⟨?_, ?_, HE.out.2⟩⟩
              · rw [ht, gCells_app]; exact HE.out.1
              · rw [ht]
                intro y hy
                rcases List.mem_append.1 hy with hy | hy
                · exact HR.out.2.1 y hy
                · simp at hy; subst hy; exact hx
            case measure => simp [intOf]; omega
          · by_cases hxc : x.1 = c
            · have hxb : (x.1 == c) = true := by simpa using hxc
              have HP : Hid (putG c f Q = Q.take j ++ (c, f) :: Q.drop (j + 1)) := Lib.hid (putG_eq Hr.out HR.out.2.1 He.out hxc)
              have Hcut := Lib.hid (HG.out.cut fl_cells (by omega) (k := j + 1) (c := d) (by omega) hNd)
              obtain ⟨A', hA'⟩ : ∃ A', (if d = j + 1 then some a else some (a.add ((j + 1) * 2))) = A' := ⟨_, rfl⟩
              rw [Option.map_some, hA'] at Hcut
              obtain ⟨wL, hwL⟩ : ∃ wL, wr.alloc (.cells #[.int .i64 c, .int .i64 f] 142) = wL := ⟨_, rfl⟩
              have HL : Hid (Has wL (wr.heap.size + 1) (some ⟨wr.heap.size, 0, none⟩) (1 * 2) (gCells flCells [(c, f)])) := Lib.hid (hwL ▸ Has.lit wr #[.int .i64 c, .int .i64 f] 142)
              have uL : Below wr.heap.size wr wL := hwL ▸ below_box _
              have HO := Lib.hid (own_belowN HR.out.1 uL)
              have HB := Lib.hid (HR.out.2.2.trans (uL.mono HR.out.2.2.size))
              have hSL : w.heap.size ≤ wL.heap.size := HB.out.size
              clear uL
              go_wp2_with (at_builtin; first
                | (refine wpList_append_hasN rfl (.tmp 46) (.tmp 50) _ rfl 142 fl_elem (by omega) Try.underlying76 rfl HO.out rfl HL.out (gCells_one fl_cells [(c, f)]) (by simp only [maxLen]; omega) (by omega) hSL ?_; intro v7 w7 o7 g7 z7; obtain ⟨A7, c7, rfl, -, -, -⟩ := own_sliceN o7; have HE := Lib.hid (And.intro o7 (HB.out.grown g7 hSL (fun g hg => (HO.out.lt g hg).1))); clear q1 c0 c1 hab; have q1 := (HQ.out _ HE.out.2).1; have c0 := (HX.out _ HE.out.2).1; clear o7 g7 z7; have hS7 : w.heap.size ≤ w7.heap.size := HE.out.2.size)
                | (refine wpList_append_hasN rfl (.tmp 74) (.tmp 80) _ rfl 142 fl_elem (by omega) Try.underlying76 rfl HE.out.1 rfl (Hcut.out.belowOf HE.out.2 (Nat.le_refl _)) (gCells_one fl_cells _) (by simp only [maxLen]; omega) (by omega) hS7 ?_; intro v8 w8 o8 g8 z8; obtain ⟨A8, c8, rfl, -, -, -⟩ := own_sliceN o8; have HE8 := Lib.hid (And.intro o8 (HE.out.2.grown g8 hS7 (fun g hg => (HE.out.1.lt g hg).1))); have fq1 := (HQ.out _ HE8.out.2).2; have q2 := (HQ.out _ HE8.out.2).1; clear o8 g8 z8))
              have HF8 := Lib.hid (ref_putQ (Q' := putG c f Q) H0.out HE8.out.2 (by
                have h8 := HE8.out.1
                have e1 : gCells flCells (Q.take j) ++ gCells flCells [(c, f)] ++ gCells flCells (Q.drop (j + 1)) = gCells flCells (putG c f Q) := by rw [HP.out, ← gCells_app, ← gCells_app]; simp
                have e2 : j + 1 + (N - (j + 1)) = (putG c f Q).length := by rw [HP.out]; simp; have := HN.out; omega
                rw [← e1, ← e2]
                exact h8))
              go_wp2
              go_meet
              exact ⟨rfl, _, _, Lib.hid ⟨HF8.out.1, HF8.out.2.1, HF8.out.2.2, riseG_put Hr.out, (by have := putG_len c f Q; have := HN.out; omega), raise_lt Hlt.out⟩⟩
            · have hxb : (x.1 == c) = false := by simpa using hxc
              have HP : Hid (putG c f Q = Q.take j ++ (c, f) :: Q.drop (j)) := Lib.hid (putG_lt Hr.out HR.out.2.1 (fun e he => by rw [He.out] at he; injection he with he; subst he; omega))
              have Hcut := Lib.hid (HG.out.cut fl_cells (by omega) (k := j) (c := d) (by omega) hNd)
              rw [Option.map_some, if_neg (by omega)] at Hcut
              obtain ⟨wL, hwL⟩ : ∃ wL, wr.alloc (.cells #[.int .i64 c, .int .i64 f] 142) = wL := ⟨_, rfl⟩
              have HL : Hid (Has wL (wr.heap.size + 1) (some ⟨wr.heap.size, 0, none⟩) (1 * 2) (gCells flCells [(c, f)])) := Lib.hid (hwL ▸ Has.lit wr #[.int .i64 c, .int .i64 f] 142)
              have uL : Below wr.heap.size wr wL := hwL ▸ below_box _
              have HO := Lib.hid (own_belowN HR.out.1 uL)
              have HB := Lib.hid (HR.out.2.2.trans (uL.mono HR.out.2.2.size))
              have hSL : w.heap.size ≤ wL.heap.size := HB.out.size
              clear uL
              go_wp2_with (at_builtin; first
                | (refine wpList_append_hasN rfl (.tmp 46) (.tmp 50) _ rfl 142 fl_elem (by omega) Try.underlying76 rfl HO.out rfl HL.out (gCells_one fl_cells [(c, f)]) (by simp only [maxLen]; omega) (by omega) hSL ?_; intro v7 w7 o7 g7 z7; obtain ⟨A7, c7, rfl, -, -, -⟩ := own_sliceN o7; have HE := Lib.hid (And.intro o7 (HB.out.grown g7 hSL (fun g hg => (HO.out.lt g hg).1))); clear q1 c0 c1 hab; have q1 := (HQ.out _ HE.out.2).1; have c0 := (HX.out _ HE.out.2).1; clear o7 g7 z7; have hS7 : w.heap.size ≤ w7.heap.size := HE.out.2.size)
                | (refine wpList_append_hasN rfl (.tmp 74) (.tmp 80) _ rfl 142 fl_elem (by omega) Try.underlying76 rfl HE.out.1 rfl (Hcut.out.belowOf HE.out.2 (Nat.le_refl _)) (gCells_one fl_cells _) (by simp only [maxLen]; omega) (by omega) hS7 ?_; intro v8 w8 o8 g8 z8; obtain ⟨A8, c8, rfl, -, -, -⟩ := own_sliceN o8; have HE8 := Lib.hid (And.intro o8 (HE.out.2.grown g8 hS7 (fun g hg => (HE.out.1.lt g hg).1))); have fq1 := (HQ.out _ HE8.out.2).2; have q2 := (HQ.out _ HE8.out.2).1; clear o8 g8 z8))
              have HF8 := Lib.hid (ref_putQ (Q' := putG c f Q) H0.out HE8.out.2 (by
                have h8 := HE8.out.1
                have e1 : gCells flCells (Q.take j) ++ gCells flCells [(c, f)] ++ gCells flCells (Q.drop (j)) = gCells flCells (putG c f Q) := by rw [HP.out, ← gCells_app, ← gCells_app]; simp
                have e2 : j + 1 + (N - (j)) = (putG c f Q).length := by rw [HP.out]; simp; have := HN.out; omega
                rw [← e1, ← e2]
                exact h8))
              go_wp2
              go_meet
              exact ⟨rfl, _, _, Lib.hid ⟨HF8.out.1, HF8.out.2.1, HF8.out.2.2, riseG_put Hr.out, (by have := putG_len c f Q; have := HN.out; omega), raise_lt Hlt.out⟩⟩
        · obtain rfl : j = N := by omega
          have HP : Hid (putG c f Q = Q.take j ++ (c, f) :: Q.drop (j)) := Lib.hid (putG_lt Hr.out HR.out.2.1 (fun e he => by have := (List.getElem?_eq_some_iff.1 he).1; have := HN.out; omega))
          have Hcut := Lib.hid (HG.out.cut fl_cells (by omega) (k := j) (c := d) (by omega) hNd)
          rw [show j - j = 0 by omega] at Hcut
          obtain ⟨A', hA'⟩ : ∃ A', (if d = j then A else A.map (·.add (j * 2))) = A' := ⟨_, rfl⟩
          rw [hA'] at Hcut
          obtain ⟨wL, hwL⟩ : ∃ wL, wr.alloc (.cells #[.int .i64 c, .int .i64 f] 142) = wL := ⟨_, rfl⟩
          have HL : Hid (Has wL (wr.heap.size + 1) (some ⟨wr.heap.size, 0, none⟩) (1 * 2) (gCells flCells [(c, f)])) := Lib.hid (hwL ▸ Has.lit wr #[.int .i64 c, .int .i64 f] 142)
          have uL : Below wr.heap.size wr wL := hwL ▸ below_box _
          have HO := Lib.hid (own_belowN HR.out.1 uL)
          have HB := Lib.hid (HR.out.2.2.trans (uL.mono HR.out.2.2.size))
          have hSL : w.heap.size ≤ wL.heap.size := HB.out.size
          clear uL
          go_wp2_with (at_builtin; first
            | (refine wpList_append_hasN rfl (.tmp 46) (.tmp 50) _ rfl 142 fl_elem (by omega) Try.underlying76 rfl HO.out rfl HL.out (gCells_one fl_cells [(c, f)]) (by simp only [maxLen]; omega) (by omega) hSL ?_; intro v7 w7 o7 g7 z7; obtain ⟨A7, c7, rfl, -, -, -⟩ := own_sliceN o7; have HE := Lib.hid (And.intro o7 (HB.out.grown g7 hSL (fun g hg => (HO.out.lt g hg).1))); clear q1; have q1 := (HQ.out _ HE.out.2).1;  clear o7 g7 z7; have hS7 : w.heap.size ≤ w7.heap.size := HE.out.2.size)
            | (refine wpList_append_hasN rfl (.tmp 74) (.tmp 80) _ rfl 142 fl_elem (by omega) Try.underlying76 rfl HE.out.1 rfl (Hcut.out.belowOf HE.out.2 (Nat.le_refl _)) (gCells_one fl_cells _) (by simp only [maxLen]; omega) (by omega) hS7 ?_; intro v8 w8 o8 g8 z8; obtain ⟨A8, c8, rfl, -, -, -⟩ := own_sliceN o8; have HE8 := Lib.hid (And.intro o8 (HE.out.2.grown g8 hS7 (fun g hg => (HE.out.1.lt g hg).1))); have fq1 := (HQ.out _ HE8.out.2).2; have q2 := (HQ.out _ HE8.out.2).1; clear o8 g8 z8))
          have HF8 := Lib.hid (ref_putQ (Q' := putG c f Q) H0.out HE8.out.2 (by
            have h8 := HE8.out.1
            have e1 : gCells flCells (Q.take j) ++ gCells flCells [(c, f)] ++ gCells flCells (Q.drop (j)) = gCells flCells (putG c f Q) := by rw [HP.out, ← gCells_app, ← gCells_app]; simp
            have e2 : j + 1 + 0 = (putG c f Q).length := by rw [HP.out]; simp; have := HN.out; omega
            rw [← e1, ← e2]
            exact h8))
          go_wp2
          go_meet
          exact ⟨rfl, _, _, Lib.hid ⟨HF8.out.1, HF8.out.2.1, HF8.out.2.2, riseG_put Hr.out, (by have := putG_len c f Q; have := HN.out; omega), raise_lt Hlt.out⟩⟩
    · go_wp2
      go_meet
      have e0 : addF F w w = F := by funext i; unfold addF; apply propext; exact ⟨fun h => h.elim id fun h => absurd h.2 (by omega), .inl⟩
      exact ⟨rfl, _, Q, Lib.hid ⟨by rw [e0]; exact H0.out, KeptF.of (Below.refl _ _), fun _ _ _ => rfl, Hr.out, by have := HN.out; omega, raise_ge (by omega)⟩⟩
  case rest =>
    obtain ⟨rfl, u1, Q1, H1⟩ := hcut
    have Hf1 := Lib.hid (refFloor_any H1.out.1 (by have := H1.out.2.2.2.2.1; omega) H1.out.2.2.2.1 c)
    obtain ⟨⟨p0, -⟩, pf, -⟩ := H1.out.1.cells
    obtain ⟨Al, dl, rfl, -, -, hLG⟩ := H1.out.1.ones.slice
    obtain ⟨M, hM⟩ : ∃ M, L.length = M := ⟨_, rfl⟩
    rw [hM] at hLG p0 hL
    have HLG := Lib.hid hLG
    have HM := Lib.hid hM
    have HFL : Hid (∀ wx, Below wc.heap.size wc wx → Calls Try.prog 89 #[.pointer (some ⟨rb, 0, none⟩), .int .i64 c] wx fun e w' => e = .returned (.int .i64 (flR c Q1)) ∧ w' = wx) := Lib.hid fun wx hx => refFloor_any (H1.out.1.below hx) (by have := H1.out.2.2.2.2.1; omega) H1.out.2.2.2.1 c
    have HP0 : Hid (∀ wx, Below wc.heap.size wc wx → wx.cell? ⟨rb, 0, none⟩ = some (.slice Al M dl) ∧ wx.frozen? ⟨rb, 0, none⟩ = false) := Lib.hid fun wx hx => ⟨(hx.cell H1.out.1.box.lt).trans p0, (H1.out.1.box.below hx H1.out.1.box.lt).frozen 0⟩
    clear hLG hM p0 pf Hf1
    go_wp2
    go_loopw [8, 9] (fun o iv wr => ∃ j : Nat, j ≤ M ∧ iv = .int .i64 (j : Int) ∧ Hid (wr.ownsRow wc.heap.size 133 7 o ((L.take j).filter (fun e => keepFl c Q1 e.one)).length (gCells OE.cells ((L.take j).filter (fun e => keepFl c Q1 e.one))) ∧ Below wc.heap.size wc wr)) (fun _ iv _ => M - (intOf iv).toNat)
    case atStart => exact ⟨0, by omega, rfl, Lib.hid ⟨World.ownsRow_nil _ _ _ _, Below.refl _ _⟩⟩
    case round =>
      obtain ⟨j, hj, rfl, HR⟩ := hrel
      obtain ⟨p0, pf⟩ := HP0.out _ HR.out.2
      have HFr := Lib.hid fun n => HFL.out _ (below_drF HR.out.2 n)
      obtain ⟨A5, c5, rfl, -, -, -⟩ := own_sliceN HR.out.1
      obtain ⟨m, hm⟩ : ∃ m, ((L.take j).filter (fun e => keepFl c Q1 e.one)).length = m := ⟨_, rfl⟩
      have hmj : m ≤ j := by rw [← hm]; refine Nat.le_trans (List.length_filter_le _ _) ?_; rw [List.length_take]; omega
      rw [hm] at HR ⊢
      have Hm := Lib.hid hm
      have hsz := HR.out.2.size
      clear hm
      by_cases hlt : j < M
      · obtain ⟨a, e, rfl, -, he, ⟨c0, c1⟩, c2, c3, c4, c5', c6⟩ := oe_cell (HLG.out.belowOf HR.out.2 (Nat.le_refl _)) hlt
        have hs : (L.take (j + 1)).filter (fun e => keepFl c Q1 e.one) = (L.take j).filter (fun e => keepFl c Q1 e.one) ++ (if keepFl c Q1 e.one = true then [e] else []) := by
          rw [List.take_add_one, he]
          simp only [Option.toList_some, List.filter_append, List.filter_cons, List.filter_nil]
        have hj0 : (0 : Int) ≤ (j : Int) := by omega
        have hj1 : (j : Int) < (M : Int) := by omega
        have HX := Lib.hid (oe_fix HLG.out hlt he)
        clear he
        by_cases hc : e.c = c
        · have hcb : (e.c == c) = true := by simpa using hc
          have hcn : (e.c != c) = false := by simp [hc]
          by_cases hf : flR c Q1 < e.n
          · have hk : keepFl c Q1 e.one = true := by simp [keepFl, OE.one, hf]
            rw [if_pos hk] at hs
            have Hs := Lib.hid hs
            clear hc hs hk
            go_wp2
            go_quiet (first | (go_at_call 89; refine Calls.quiet_of_same (HFr.out _)))
            have HR4 := Lib.hid (And.intro (own_belowN HR.out.1 (below_drF (Below.refl _ _) nq)) (below_drF HR.out.2 nq))
            clear p0 pf c0 c1 c2 c3 c4 c5' c6 HFr
            generalize wr.drewN nq = w4 at *
            obtain ⟨p0, pf⟩ := HP0.out _ HR4.out.2
            obtain ⟨c0, c1, c2, c3, c4, c5', c6⟩ := HX.out _ HR4.out.2
            have hsz4 := HR4.out.2.size
            obtain ⟨wL, hwL⟩ : ∃ wL, w4.alloc (.cells #[.int .i64 e.c, .int .i64 e.n, .int .i64 e.p.code, .bool e.p.there, .slice e.A e.p.rc.length e.d, .slice e.X 0 e.y, .int .i64 e.p.id] 133) = wL := ⟨_, rfl⟩
            have HL : Hid (Has wL (w4.heap.size + 1) (some ⟨w4.heap.size, 0, none⟩) (1 * 7) (gCells OE.cells [e])) := Lib.hid (hwL ▸ Has.lit w4 #[.int .i64 e.c, .int .i64 e.n, .int .i64 e.p.code, .bool e.p.there, .slice e.A e.p.rc.length e.d, .slice e.X 0 e.y, .int .i64 e.p.id] 133)
            have uL : Below w4.heap.size w4 wL := hwL ▸ below_box _
            have HO := Lib.hid (own_belowN HR4.out.1 uL)
            have HB := Lib.hid (HR4.out.2.trans (uL.mono hsz4))
            have hSL : wc.heap.size ≤ wL.heap.size := HB.out.size
            clear uL
            go_wp2_with (at_builtin; go_loud (refine wpList_append_hasN rfl (.tmp 117) (.tmp 125) _ rfl 133 oe_elem (by omega) Try.underlying75 rfl HO.out rfl HL.out (gCells_one oe_cells [e]) (by simp only [maxLen]; omega) (by omega) hSL ?_; intro v7 w7 o7 g7 z7; have HE := Lib.hid (And.intro o7 (HB.out.grown g7 hSL (fun g hg => (HO.out.lt g hg).1))); clear o7 g7 z7))
            go_roundw
            case rel =>
              refine ⟨j + 1, by omega, by go_num, Lib.hid ⟨?_, HE.out.2⟩⟩
              have h9 := HE.out.1
              rw [Hs.out, List.length_append, Hm.out, gCells_app]
              exact h9
            case measure => simp [intOf]; omega
          · have hk : keepFl c Q1 e.one = false := by simp [keepFl, OE.one, hc]; omega
            rw [hk] at hs
            simp only [Bool.false_eq_true, if_false, List.append_nil] at hs
            have Hs := Lib.hid hs
            clear hc hs hk c2 c3 c4 c5' c6
            go_wp2
            go_quiet (first | (go_at_call 89; refine Calls.quiet_of_same (HFr.out _)))
            go_wp2
            go_roundw
            case rel => exact ⟨j + 1, by omega, by go_num, Lib.hid ⟨by rw [Hs.out, Hm.out]; exact own_belowN HR.out.1 (below_drF (Below.refl _ _) nq), below_drF HR.out.2 nq⟩⟩
            case measure => simp [intOf]; omega
        · have hcb : (e.c == c) = false := by simpa using hc
          have hcn : (e.c != c) = true := by simp [hc]
          have hk : keepFl c Q1 e.one = true := by simp [keepFl, OE.one, hc]
          rw [if_pos hk] at hs
          have Hs := Lib.hid hs
          clear hc hs hk
          go_wp2
          go_quiet (fail)
          have HR4 := Lib.hid (And.intro (own_belowN HR.out.1 (below_drF (Below.refl _ _) nq)) (below_drF HR.out.2 nq))
          clear p0 pf c0 c1 c2 c3 c4 c5' c6 HFr
          generalize wr.drewN nq = w4 at *
          obtain ⟨p0, pf⟩ := HP0.out _ HR4.out.2
          obtain ⟨c0, c1, c2, c3, c4, c5', c6⟩ := HX.out _ HR4.out.2
          have hsz4 := HR4.out.2.size
          obtain ⟨wL, hwL⟩ : ∃ wL, w4.alloc (.cells #[.int .i64 e.c, .int .i64 e.n, .int .i64 e.p.code, .bool e.p.there, .slice e.A e.p.rc.length e.d, .slice e.X 0 e.y, .int .i64 e.p.id] 133) = wL := ⟨_, rfl⟩
          have HL : Hid (Has wL (w4.heap.size + 1) (some ⟨w4.heap.size, 0, none⟩) (1 * 7) (gCells OE.cells [e])) := Lib.hid (hwL ▸ Has.lit w4 #[.int .i64 e.c, .int .i64 e.n, .int .i64 e.p.code, .bool e.p.there, .slice e.A e.p.rc.length e.d, .slice e.X 0 e.y, .int .i64 e.p.id] 133)
          have uL : Below w4.heap.size w4 wL := hwL ▸ below_box _
          have HO := Lib.hid (own_belowN HR4.out.1 uL)
          have HB := Lib.hid (HR4.out.2.trans (uL.mono hsz4))
          have hSL : wc.heap.size ≤ wL.heap.size := HB.out.size
          clear uL
          go_wp2_with (at_builtin; go_loud (refine wpList_append_hasN rfl (.tmp 117) (.tmp 125) _ rfl 133 oe_elem (by omega) Try.underlying75 rfl HO.out rfl HL.out (gCells_one oe_cells [e]) (by simp only [maxLen]; omega) (by omega) hSL ?_; intro v7 w7 o7 g7 z7; have HE := Lib.hid (And.intro o7 (HB.out.grown g7 hSL (fun g hg => (HO.out.lt g hg).1))); clear o7 g7 z7))
          go_roundw
          case rel =>
            refine ⟨j + 1, by omega, by go_num, Lib.hid ⟨?_, HE.out.2⟩⟩
            have h9 := HE.out.1
            rw [Hs.out, List.length_append, Hm.out, gCells_app]
            exact h9
          case measure => simp [intOf]; omega
      · have hjM : j = M := by omega
        subst hjM
        have hT : L.take j = L := List.take_of_length_le (by have := HM.out; omega)
        have HE := Lib.hid (ref_putL (L' := L.filter (fun e => keepFl c Q1 e.one)) H1.out.1 HR.out.2 (by
          have h9 := HR.out.1
          have h8 := Hm.out
          rw [hT] at h9 h8
          rw [h8]
          exact h9) (fun e he => H1.out.1.rows e (List.mem_filter.1 he).1))
        have hsz1 := H1.out.2.1.size
        clear hT
        go_wp2
        go_end0
        refine ⟨rfl, ⟨_, _, _, by rw [H1.out.2.2.2.2.2]; exact HE.out.1.two hsz1 HE.out.2.1.size, ?_⟩, H1.out.2.1.two HE.out.2.1, H1.out.2.2.1.trans HE.out.2.2⟩
        rw [H1.out.2.2.2.2.2]
        simp only [List.filter_map]
        rfl
end
end Go.Proofs.Ytdfhnjocpfjagaa

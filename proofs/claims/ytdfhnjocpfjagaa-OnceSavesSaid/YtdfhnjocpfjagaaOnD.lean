/- Package once: what is too old is forgotten: forget, rise, narrow. Condition: the past is in memory. -/
import Derived.Test.YtdfhnjocpfjagaaOnC
namespace Go.Proofs.Ytdfhnjocpfjagaa
open Go.RowKit Go.Maps

section
variable {F : Nat → Prop} {w w1 : World} {pb ab qb : Nat} {fl f : Int} {E : List (Int × AV)}
theorem rise1_any (hq : Box w qb 3 #[.int .i64 f]) (n : Int) : Calls Try.prog 125 #[.int .i64 n, .pointer (some ⟨qb, 0, none⟩)] w fun e w' => e = .returned (.bool (decide (n ≤ f))) ∧ w' = w := by
  have q0 : w.cell? ⟨qb, 0, none⟩ = some (.int .i64 f) := hq.cell 0
  clear hq
  go_enter Try.func125, Try.ntmps125
  go_wp2
  go_ret
  exact ⟨rfl, rfl⟩
/-- the loop over the answers is under way: of those that were seen, those that are too old are gone -/
def FgR (w wr : World) (F : Nat → Prop) (ab : Nat) (f : Int) (E : List (Int × AV)) (E1 : List (Int × AV)) (left : Lit → Bool) (cnt : Nat) : Prop :=
  wr.ranges Try.prog 3 Rn ab w.heap.size E.length (gmap AV.v E1) left cnt ∧ AnsAt wr F ab E1 ∧ (E1 = E.filter fun e => left (.int .i64 e.1) || decide (f < e.1)) ∧ KeptF (fun i => i = ab) w wr
theorem FgR.start (h : AnsAt w F ab E) (f : Int) {w0 : World} (hr : w0.ranges Try.prog 3 Rn ab w.heap.size E.length (gmap AV.v E) (Maps.has (gmap AV.v E)) (Maps.size (gmap AV.v E))) (hg : w.grownBy w0 none) : FgR w w0 F ab f E E (Maps.has (gmap AV.v E)) (Maps.size (gmap AV.v E)) := by
  refine ⟨hr, h.below (grown_none hg), (List.filter_eq_self.2 fun e he => ?_).symm, KeptF.of (grown_none hg)⟩
  rw [gmap_has, getG_of h.rise (k := e.1) (a := e.2) he]
  rfl
theorem FgR.next {wr : World} {E1 : List (Int × AV)} {left : Lit → Bool} {cnt : Nat} (h : FgR w wr F ab f E E1 left cnt) (hg : wr.grownBy w1 (some w.heap.size)) : AnsAt w1 F ab E1 ∧ KeptF (fun i => i = ab) w w1 := by
  have hr := h.1.lt
  exact ⟨h.2.1.iter (ranges_iter h.1) hg, h.2.2.2.trans (KeptF.grown hg (.inr ⟨Nat.le_refl _, hr⟩))⟩
theorem strike_key (left : Lit → Bool) (k x : Int) : (left (.int .i64 x) && !(Lit.int .i64 x).sameKey (.int .i64 k)) = if x = k then false else left (.int .i64 x) := by
  rw [sameKeyG]
  by_cases h : x = k <;> simp [h]
theorem fg_keep {left : Lit → Bool} {k : Int} (hf : f < k) : (E.filter fun e => left (.int .i64 e.1) || decide (f < e.1)) = E.filter fun e => (left (.int .i64 e.1) && !(Lit.int .i64 e.1).sameKey (.int .i64 k)) || decide (f < e.1) := by
  refine List.filter_congr fun e _ => ?_
  rw [strike_key]
  by_cases h : e.1 = k
  · rw [if_pos h, h]; simp [hf]
  · rw [if_neg h]
theorem fg_del {left : Lit → Bool} {k : Int} (hf : ¬ f < k) : delG k (E.filter fun e => left (.int .i64 e.1) || decide (f < e.1)) = E.filter fun e => (left (.int .i64 e.1) && !(Lit.int .i64 e.1).sameKey (.int .i64 k)) || decide (f < e.1) := by
  unfold delG
  rw [List.filter_filter]
  refine List.filter_congr fun e _ => ?_
  rw [strike_key]
  by_cases h : e.1 = k
  · rw [if_pos h, h]; simp; omega
  · rw [if_neg h]; simp [h]
set_option maxRecDepth 100000 in
set_option maxHeartbeats 3200000 in
theorem forget_any (hb : Box w pb 128 #[.int .i64 fl, .map (some ab)]) (hq : Box w qb 3 #[.int .i64 f]) (h : AnsAt w F ab E) :
    Calls Try.prog 124 #[.pointer (some ⟨pb, 0, none⟩), .func (.func 125) #[] #[.pointer (some ⟨qb, 0, none⟩)]] w fun e w' =>
      e = .returned (.tuple #[]) ∧ AnsAt w' F ab (E.filter fun e => decide (f < e.1)) ∧ KeptF (fun i => i = ab) w w' := by
  have q1 : w.cell? ⟨pb, 1, none⟩ = some (.map (some ab)) := hb.cell 1
  have HS := Lib.hid (fun (w0 : World) hr hg => FgR.start h f (w0 := w0) hr hg)
  have hown := h.own
  obtain ⟨es, c, hm⟩ := mapL_block hown
  have hpn := map_ne hb hm
  have hqn := map_ne hq hm
  have HB := Lib.hid (And.intro hb hq)
  clear h hb hq hm
  go_enter Try.func124, Try.ntmps124
  go_wp2_with (first
    | (at_range; refine wpList_range_own _ rfl _ 126 rfl 3 82 intKeyed Try.underlying126 _ ab E.length _ rfl hown ?_; intro w0 hrg0 hg0 hs0)
    | go_in)
  go_frame
  have H0 := Lib.hid (HS.out w0 hrg0 hg0)
  clear hown q1 hrg0 hg0 hs0 HS
  go_loopw [4] (fun _ wr => ∃ (E1 : List (Int × AV)) (left : Lit → Bool) (cnt : Nat), Hid (FgR w wr F ab f E E1 left cnt)) (fun _ wr => wr.rangeLeft ab w.heap.size)
  case atStart => exact ⟨_, _, _, H0⟩
  case round =>
    obtain ⟨E1, left, cnt, HR⟩ := hrel
    have hrg := HR.out.1
    go_wp2_with (first
      | (at_next; refine wpList_next_g (w := wr) rfl _ rfl ab w.heap.size E.length E1 left cnt rfl hrg ?_ ?_)
      | go_in)
    · intro _ hl0
      have HE : Hid (AnsAt wr F ab (E.filter fun e => decide (f < e.1)) ∧ KeptF (fun i => i = ab) w wr) := Lib.hid ⟨by
        have h2 := HR.out.2.1
        have e1 : E1 = E.filter fun e => decide (f < e.1) := HR.out.2.2.1.trans (List.filter_congr fun e _ => by rw [hl0]; rfl)
        rwa [e1] at h2, HR.out.2.2.2⟩
      clear hrg HR H0
      go_wp2
      go_end0
      exact ⟨rfl, HE.out.1, HE.out.2⟩
    · intro k x w1 cnt1 hx hwx hlx hrg1 hlt hg1 hs1 hen
      obtain ⟨h1, k1⟩ := HR.out.next hg1
      have hb1 := k1.box HB.out.1 hpn
      have hq1 := k1.box HB.out.2 hqn
      have Hr := Lib.hid (rise1_any hq1 k)
      have q1 : w1.cell? ⟨pb, 1, none⟩ = some (.map (some ab)) := hb1.cell 1
      have H1 := Lib.hid (And.intro h1 (And.intro k1 HR.out.2.2.1))
      have Hcnt : Hid (wr.rangeLeft ab w.heap.size = cnt) := Lib.hid hrg.left_eq
      clear h1 k1 hb1 hq1 hrg hg1 hs1 HR H0 hx
      by_cases hf : k ≤ f
      · have hd : decide (k ≤ f) = true := decide_eq_true hf
        rw [hd] at Hr
        have Hf := Lib.hid hf
        clear hf hd
        go_wp2_with fail
        refine Hr.out.mono ?_
        rintro e w2 ⟨rfl, rfl⟩
        go_wp2_with (first
          | (at_delete; refine wpList_delete_ranges _ rfl _ _ 126 3 rfl 82 intKeyed Try.underlying126 _ ab w.heap.size E.length _ _ _ rfl hrg1 _ _ rfl (keyOf_int_mk Try.underlying3 hwx) ?_; intro w3 cnt2 hrg3 hle hturn; go_frame)
          | go_in)
        rw [strike_twice] at hrg3
        have h3 := H1.out.1.del hrg3.owns hturn
        rw [gmap_del] at hrg3
        have HE : Hid (FgR w w3 F ab f E (delG k E1) (fun z => left z && !z.sameKey (.int .i64 k)) cnt2) := Lib.hid ⟨hrg3, h3, by rw [H1.out.2.2]; exact fg_del (by have := Hf.out; omega), H1.out.2.1.trans0 (KeptF.grown hturn.grown rfl)⟩
        clear h3
        go_roundw
        case rel => exact ⟨_, _, _, HE⟩
        case measure => rw [HE.out.1.left_eq, Hcnt.out]; omega
      · have hd : decide (k ≤ f) = false := decide_eq_false hf
        rw [hd] at Hr
        have HE : Hid (FgR w w1 F ab f E E1 (fun z => left z && !z.sameKey (.int .i64 k)) cnt1) := Lib.hid ⟨hrg1, H1.out.1, by rw [H1.out.2.2]; exact fg_keep (by omega), H1.out.2.1⟩
        clear hf hd
        go_wp2_with fail
        refine Hr.out.mono ?_
        rintro e w2 ⟨rfl, rfl⟩
        go_wp2
        go_roundw
        case rel => exact ⟨_, _, _, HE⟩
        case measure => rw [HE.out.1.left_eq, Hcnt.out]; omega
/-- a past in its box -/
structure PastAt (w : World) (F : Nat → Prop) (pb ab : Nat) (fl : Int) (E : List (Int × AV)) : Prop where
  box : Box w pb 128 #[.int .i64 fl, .map (some ab)]
  ans : AnsAt w F ab E
theorem PastAt.ne (h : PastAt w F pb ab fl E) : pb ≠ ab := by
  obtain ⟨es, c, hm⟩ := mapL_block h.ans.own
  exact map_ne h.box hm
/-- the blocks of a past: its box, its map -/
def twoF (pb ab : Nat) : Nat → Prop := fun i => i = pb ∨ i = ab
set_option maxRecDepth 100000 in
theorem rise_any (h : PastAt w F pb ab fl E) (f : Int) :
    Calls Try.prog 115 #[.pointer (some ⟨pb, 0, none⟩), .int .i64 f] w fun e w' => e = .returned (.tuple #[]) ∧ PastAt w' F pb ab f (E.filter fun e => decide (f < e.1)) ∧ KeptF (twoF pb ab) w w' := by
  have hl := h.box.lt
  obtain ⟨w1, hw1⟩ : ∃ w1, w.alloc (.cells #[.int .i64 f] 3) = w1 := ⟨_, rfl⟩
  have hq1 : Box w1 w.heap.size 3 #[.int .i64 f] := hw1 ▸ Box.made _ _ _
  have hb1 : Box w1 pb 128 #[.int .i64 fl, .map (some ab)] := hw1 ▸ h.box.alloc _
  have bw1 : Below w.heap.size w w1 := hw1 ▸ below_box _
  have h1 := h.ans.below bw1
  obtain ⟨w2, hw2⟩ : ∃ w2, w1.setCell ⟨pb, 0, none⟩ (.int .i64 f) = w2 := ⟨_, rfl⟩
  have hb2 : Box w2 pb 128 #[.int .i64 f, .map (some ab)] := hw2 ▸ hb1.set_ 0 (.int .i64 f)
  have hq2 : Box w2 w.heap.size 3 #[.int .i64 f] := hw2 ▸ hq1.far (by show w.heap.size ≠ pb; omega) _
  have h2 : AnsAt w2 F ab E := hw2 ▸ h1.set hb1 types17.2.1 0 _
  have k2 : KeptF (twoF pb ab) w w2 := (KeptF.of bw1).trans0 (KeptF.grown (hw2 ▸ grown_set w1 pb 0 _) (.inl rfl))
  have q0 : w1.cell? ⟨w.heap.size, 0, none⟩ = some (.int .i64 f) := hq1.cell 0
  have p0 : w1.cell? ⟨pb, 0, none⟩ = some (.int .i64 fl) := hb1.cell 0
  have f0 : w1.frozen? ⟨pb, 0, none⟩ = false := hb1.frozen 0
  have Hne := Lib.hid h.ne
  have Hc := Lib.hid (And.intro (forget_any hb2 hq2 h2) (And.intro hb2 k2))
  clear h hq1 hb1 bw1 h1 hb2 hq2 h2 k2
  go_enter Try.func115, Try.ntmps115
  go_wp2_with fail
  refine Hc.out.1.mono ?_
  rintro e w3 ⟨rfl, h3, k3⟩
  have HE : Hid (PastAt w3 F pb ab f (E.filter fun e => decide (f < e.1)) ∧ KeptF (twoF pb ab) w w3) := Lib.hid ⟨⟨k3.box Hc.out.2.1 Hne.out, h3⟩, Hc.out.2.2.trans0 (k3.weak fun i _ e => .inr e)⟩
  clear h3 k3
  go_wp2
  go_end0
  exact ⟨rfl, HE.out.1, HE.out.2⟩
theorem plE_filter (f : Int) (E : List (Int × AV)) : plE (E.filter fun e => decide (f < e.1)) = (plE E).filter fun e => decide (f < e.1) := mapG_filter AV.p (fun x => decide (f < x)) E
theorem plE_len (E : List (Int × AV)) : (plE E).length = E.length := mapG_len _ _
theorem plE_over (E : List (Int × AV)) : over (plE E) = (numsG E).getD (E.length - 5) 0 := by
  unfold over
  rw [plE_len]
  unfold plE
  rw [mapG_nums]
set_option maxRecDepth 100000 in
set_option maxHeartbeats 1600000 in
theorem narrow_any (h : PastAt w F pb ab fl E) (hl : E.length ≤ 100000) :
    Calls Try.prog 92 #[.pointer (some ⟨pb, 0, none⟩)] w fun e w' => e = .returned (.tuple #[]) ∧ ∃ fl' E', PastAt w' F pb ab fl' E' ∧ (⟨fl', plE E'⟩ : Pa) = narrowT ⟨fl, plE E⟩ ∧ KeptF (twoF pb ab) w w' := by
  have q1 : w.cell? ⟨pb, 1, none⟩ = some (.map (some ab)) := h.box.cell 1
  have hlen := h.ans.own.len (ty := 3) Try.underlying126
  rw [gmap_size] at hlen
  obtain ⟨n, hn⟩ : ∃ n, E.length = n := ⟨_, rfl⟩
  have hwr : IntKind.i64.wrap ((n : Int) - 4) = (n : Int) - 4 := IntWalk.i64_in _ (by omega)
  by_cases h4 : 4 < n
  · have hgt : (4 : Int) < (n : Int) := by omega
    have hwr2 : IntKind.i64.wrap ((n : Int) - 4 - 1) = (n : Int) - 4 - 1 := IntWalk.i64_in _ (by omega)
    obtain ⟨j, hj⟩ : ∃ j : Nat, n = j + 5 := ⟨n - 5, by omega⟩
    have hj2 : (n : Int) - 4 - 1 = (j : Int) := by omega
    have Hn := Lib.hid (numbers_any h.box h.ans hl)
    obtain ⟨x, hx⟩ : ∃ x, (numsG E)[j]? = some x := ⟨_, List.getElem?_eq_getElem (by unfold numsG; rw [List.length_map]; omega)⟩
    have Hx : Hid ((numsG E)[j]? = some x ∧ narrowT ⟨fl, plE E⟩ = ⟨x, plE (E.filter fun e => decide (x < e.1))⟩) := Lib.hid ⟨hx, by
      unfold narrowT
      simp only
      rw [plE_len, if_pos (by omega), plE_over, hn, hj, show j + 5 - 5 = j from by omega, List.getD_eq_getElem?_getD, hx]
      unfold riseT
      simp only [Option.getD_some]
      rw [plE_filter]⟩
    have HR := Lib.hid (fun (wx : World) (hx : Below w.heap.size w wx) => rise_any (w := wx) ⟨h.box.below hx h.box.lt, h.ans.below hx⟩ x)
    rw [hn] at Hn hlen
    have HH := Lib.hid hn
    rw [hj2] at hwr2
    have hj0 : (0 : Int) ≤ (j : Int) := by omega
    have hj1 : (j : Int) < (n : Int) := by omega
    have hle : n - 4 = j + 1 := by omega
    have Hj5 := Lib.hid hj
    clear h hn hx h4 hj
    go_enter Try.func92, Try.ntmps92
    go_wp2_with fail
    refine Hn.out.mono ?_
    rintro e w1 ⟨v, rfl, o1, b1⟩
    obtain ⟨A, c, rfl, -, -, hh⟩ := own_sliceN o1
    have hj := Hj5.out
    have hcj : ∃ a, A = some a ∧ w1.cell? (a.add j) = some (.int .i64 x) := by
      obtain ⟨a, rfl, -, hc⟩ := hh.all (by omega)
      exact ⟨a, rfl, hc j _ (by rw [List.getElem?_map, Hx.out.1]; rfl)⟩
    obtain ⟨a, rfl, hca⟩ := hcj
    have HB := Lib.hid b1
    clear o1 hh b1 hj
    go_wp2_with fail
    refine (HR.out _ HB.out).mono ?_
    rintro e w2 ⟨rfl, h2, k2⟩
    have HE : Hid (PastAt w2 F pb ab x (E.filter fun e => decide (x < e.1)) ∧ KeptF (twoF pb ab) w w2) := Lib.hid ⟨h2, (KeptF.of HB.out).trans0 k2⟩
    clear h2 k2
    go_wp2
    go_end0
    exact ⟨rfl, x, _, HE.out.1, Hx.out.2.symm, HE.out.2⟩
  · have hgt : ¬ (4 : Int) < (n : Int) := by omega
    have HE : Hid (PastAt w F pb ab fl E ∧ (⟨fl, plE E⟩ : Pa) = narrowT ⟨fl, plE E⟩) := Lib.hid ⟨h, by unfold narrowT; simp only; rw [plE_len, if_neg (by omega)]⟩
    rw [hn] at hlen
    have hle : ¬ (0 : Int) < (n : Int) - 4 := by omega
    clear h hn h4
    go_enter Try.func92, Try.ntmps92
    go_wp2
    go_end0
    exact ⟨rfl, _, _, HE.out.1, HE.out.2, KeptF.of (Below.refl _ _)⟩
end
end Go.Proofs.Ytdfhnjocpfjagaa

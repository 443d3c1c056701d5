/- Package once: Copy and Join. Condition: the tables are in memory, and may be. -/
import Derived.Test.YtdfhnjocpfjagaaOnJ
namespace Go.Proofs.Ytdfhnjocpfjagaa
open Go.RowKit Go.Maps

theorem joinT_getG (k : Int) : ∀ (b a : Tb), RiseG b → getG k (joinT a b) = match getG k b with | some p => some (joinP (getT k a) p) | none => getG k a
  | [], _, _ => rfl
  | e :: b, a, h => by
    obtain ⟨h1, h2⟩ := List.pairwise_cons.1 h
    have ih := joinT_getG k b (putG e.1 (joinP (getT e.1 a) e.2) a) h2
    have e0 : joinT a (e :: b) = joinT (putG e.1 (joinP (getT e.1 a) e.2) a) b := rfl
    rw [e0, ih, getT_put, getG_cons, getG_put]
    by_cases hn : e.1 = k
    · have : getG k b = none := getG_none.2 fun q hq => by have := h1 q hq; omega
      subst hn
      rw [this]
      simp
    · rw [if_neg hn, if_neg hn, if_neg hn]
theorem joinT_rise : ∀ (b a : Tb), RiseG a → RiseG (joinT a b)
  | [], _, h => h
  | _ :: b, _, h => joinT_rise b _ (riseG_put h)
section
variable {F : Nat → Prop} {w w' : World} {sb mb : Nat} {M : List (Int × PV)}
/-- nothing but an iterator has turned -/
theorem TabM.iter (h : TabM w F sb mb M) {r : Nat} (hr : ∃ a s x y, w.heap[r]? = some (.mapIter a s x y)) (hg : w.grownBy w' (some r)) : TabM w' F sb mb M := by
  obtain ⟨a, s, x, y, hr⟩ := hr
  have kk : ∀ (i : Nat) (o : Obj), w.heap[i]? = some o → (∀ a s x y, o ≠ .mapIter a s x y) → w'.heap[i]? = w.heap[i]? := fun i o ho hn => by
    refine hg.block i (Array.getElem?_eq_some_iff.1 ho).1 fun e => ?_
    injection e with e
    subst e
    rw [hr] at ho
    exact hn _ _ _ _ (by injection ho with ho; exact ho.symm)
  obtain ⟨es, c, hm⟩ := mapL_block h.own
  exact { h with
    lt := fun i hi => Nat.lt_of_lt_of_le (h.lt i hi) hg.size
    box := (kk _ _ h.box (by intro a s x y e; cases e)).trans h.box
    own := mapL_keep h.own (kk _ _ hm (by intro a s x y e; cases e))
    ans := fun k p hp => (h.ans k p hp).iter ⟨a, s, x, y, hr⟩ hg }
end
/-- a loop over a table's pasts makes another table: what is to be seen, what it makes of it -/
def CR (w wr : World) (mb r sb2 mb2 : Nat) (M : List (Int × PV)) (T0 : Tb) (g : Int → Pa → Pa) (M2 : List (Int × PV)) (left : Lit → Bool) (cnt : Nat) : Prop :=
  wr.ranges Try.prog 3 Rn mb r M.length (gmap PV.v M) left cnt ∧ TabM wr (addF (fun _ => False) w wr) sb2 mb2 M2 ∧
  (∀ k, getG k (mapG PV.p M2) = if left (.int .i64 k) then getG k T0 else match getG k (mapG PV.p M) with | some p => some (g k p) | none => getG k T0) ∧ Below w.heap.size w wr
section
variable {w W wr w1 : World} {F : Nat → Prop} {mb r sb2 mb2 : Nat} {M M2 : List (Int × PV)} {T0 : Tb} {g : Int → Pa → Pa} {left : Lit → Bool} {cnt cnt1 : Nat}
theorem CR.start (h2 : TabM W (addF (fun _ => False) w W) sb2 mb2 M2) (hT : mapG PV.p M2 = T0) (hW : Below w.heap.size w W) {w0 : World} (hr : w0.ranges Try.prog 3 Rn mb W.heap.size M.length (gmap PV.v M) (Maps.has (gmap PV.v M)) (Maps.size (gmap PV.v M))) (hg : W.grownBy w0 none) : CR w w0 mb W.heap.size sb2 mb2 M T0 g M2 (Maps.has (gmap PV.v M)) (Maps.size (gmap PV.v M)) := by
  refine ⟨hr, (h2.below (grown_none hg)).mono (fun i hi => hi.elim .inl fun hi => .inr ⟨hi.1, Nat.lt_of_lt_of_le hi.2 hg.size⟩) (fun i hi => hi.elim False.elim fun hi => hi.2), fun k => ?_, hW.trans ((grown_none hg).mono hW.size)⟩
  rw [hT, gmap_has]
  cases hn : getG k M with
  | none =>
    rw [getG_map, hn]
    rfl
  | some x => rfl
theorem CR.next (h : CR w wr mb r sb2 mb2 M T0 g M2 left cnt) (hr : w.heap.size ≤ r) (hg : wr.grownBy w1 (some r)) (hs : w1.heap.size = wr.heap.size) : TabM w1 (addF (fun _ => False) w w1) sb2 mb2 M2 ∧ Below w.heap.size w w1 := by
  rw [addF_keep hs]
  exact ⟨h.2.1.iter (ranges_iter h.1) hg, h.2.2.2.grown hg h.2.2.2.size (fun i hi => by injection hi with hi; omega)⟩
theorem CR.get {k : Int} {x x' : PV} (h : ∀ k, getG k (mapG PV.p M2) = if left (.int .i64 k) then getG k T0 else match getG k (mapG PV.p M) with | some p => some (g k p) | none => getG k T0) (hx : getG k M = some x) (hp : x'.p = g k x.p) (n : Int) :
    getG n (mapG PV.p (putG k x' M2)) = if (left (.int .i64 n) && !(Lit.int .i64 n).sameKey (.int .i64 k)) then getG n T0 else match getG n (mapG PV.p M) with | some p => some (g n p) | none => getG n T0 := by
  rw [strike_key, mapG_put, getG_put]
  by_cases hk : k = n
  · subst hk
    rw [if_pos rfl, show (if k = k then false else left (.int .i64 k)) = false from if_pos rfl, getG_map, hx, hp]
    rfl
  · rw [if_neg hk, show (if n = k then false else left (.int .i64 n)) = left (.int .i64 n) from if_neg fun e => hk e.symm, h n]
theorem CR.len (h : CR w wr mb r sb2 mb2 M T0 g M2 left cnt) (hM : RiseG M) (hT : RiseG T0) : M2.length ≤ T0.length + M.length := by
  have h1 : (mapG PV.p M2).length ≤ (joinT T0 (mapG PV.p M)).length := len_of_sub (riseG_map.2 h.2.1.rise) (joinT_rise _ _ hT) fun k hk => by
    rw [joinT_getG k _ _ (riseG_map.2 hM)]
    rw [h.2.2.1 k] at hk
    split at hk
    · cases hm : getG k (mapG PV.p M) with
      | none => exact hk
      | some p => rfl
    · cases hm : getG k (mapG PV.p M) with
      | none => rw [hm] at hk; exact hk
      | some p => rfl
  have h2 := joinT_len (mapG PV.p M) T0
  rw [mapG_len] at h1 h2
  omega
theorem PGood.parts {p : PV} (h : PGood p.p) : RiseG p.E ∧ p.E.length ≤ 10 ∧ ∀ n e, getG n p.E = some e → e.p.Right := by
  refine ⟨riseG_map.1 h.rise, ?_, fun n e he => ?_⟩
  · have h1 := h.len
    have h2 := plE_len p.E
    unfold PV.p at h1
    simp only at h1
    omega
  · refine (h.num (n, e.p) (getG_mem ?_)).2
    unfold PV.p plE
    simp only
    rw [getG_map, he]
    rfl
/-- behind the making of a past: it goes into the new map -/
theorem CR.put {w3 wR wM : World} {k : Int} {x : PV} {ab n : Nat} {fl : Int} {E : List (Int × AV)} {w2 : World} (h2 : TabM w3 (addF (fun _ => False) w w3) sb2 mb2 M2) (hb3 : Below w.heap.size w w3) (hget : ∀ x' : PV, x'.p = g k x.p → ∀ n, getG n (mapG PV.p (putG k x' M2)) = if (left (.int .i64 n) && !(Lit.int .i64 n).sameKey (.int .i64 k)) then getG n T0 else match getG n (mapG PV.p M) with | some p => some (g n p) | none => getG n T0)
    (hrg : w2.ranges Try.prog 3 Rn mb r M.length (gmap PV.v M) (fun z => left z && !z.sameKey (.int .i64 k)) cnt1) (hb2 : Below w2.heap.size w2 wR) (hw : mb < w.heap.size) (hb : Below w3.heap.size w3 wR) (ha : AnsAt wR (addF (fun _ => False) w3 wR) ab E) (he : (⟨fl, plE E⟩ : Pa) = g k x.p)
    (hM : wM.ownsMap Try.prog 3 Rn mb2 n ((gmap PV.v M2).put (.int .i64 k) (.held (.agg #[.int .i64 fl, .map (some ab)])))) (hT : wR.mapTurned wM mb2) : CR w wM mb r sb2 mb2 M T0 g (putG k ⟨fl, ab, E⟩ M2) (fun z => left z && !z.sameKey (.int .i64 k)) cnt1 := by
  have hab : w3.heap.size ≤ ab := ha.aF.elim False.elim fun h => h.1
  obtain ⟨t1, t2, -⟩ := h2.turn (x := ⟨fl, ab, E⟩) (c := k) (.inr hab) (KeptF.of hb) (ha.mono fun i _ hi => hi.elim False.elim .inr) hM hT
  rw [addF_two hb3.size (by have := mapTurned_size hT; have := hb.size; omega)] at t1
  have hrgR := hrg.kept (⟨hb2.os, hb2.tape, hb2.output, hb2.size, fun i hi _ => hb2.block i hi⟩ : w2.grownBy wR none) (by simp) (by simp)
  have hm2 : w.heap.size ≤ mb2 := h2.mF.elim False.elim fun h => h.1
  have hit : mb2 ≠ r := fun e => by
    obtain ⟨a, s, x, y, hr⟩ := ranges_iter hrgR
    obtain ⟨es, c, es', c', hm, -⟩ := hT
    rw [e, hr] at hm
    cases hm
  have hrgN := hrgR.kept hT.grown (by intro e; injection e with e; omega) (by intro e; injection e with e; exact hit e.symm)
  exact ⟨hrgN, t1, hget ⟨fl, ab, E⟩ he, (hb3.trans (hb.mono hb3.size)).grown hT.grown (Nat.le_trans hb3.size hb.size) (fun i hi => by injection hi with hi; omega)⟩
end
section
variable {F : Nat → Prop} {w : World} {sb : Nat} {T : Tb}
set_option maxRecDepth 100000 in
set_option maxHeartbeats 12800000 in
theorem onceCopy_any (h : TabAt w F sb T) (hT : TGood T) (hTl : T.length ≤ 100000) : Calls Try.prog 58 #[.pointer (some ⟨sb, 0, none⟩)] w fun e w' => ∃ sb2, e = .returned (.pointer (some ⟨sb2, 0, none⟩)) ∧ TabAt w' (addF (fun _ => False) w w') sb2 T ∧ Below w.heap.size w w' := by
  obtain ⟨mb, M, hM, hMT⟩ := h
  have HM := Lib.hid hM
  have HT := Lib.hid (And.intro hT (And.intro hTl hMT))
  have Hq : Hid (∀ wx, Below w.heap.size w wx → wx.cell? ⟨sb, 0, none⟩ = some (.map (some mb))) := Lib.hid fun wx hx => (hM.below hx).cell
  clear hM hT hTl hMT
  go_enter Try.func58, Try.ntmps58
  go_wp2_with fail
  refine (onceNew_any w).mono ?_
  rintro e w1 ⟨sb2, rfl, ⟨mb2, M20, h2, hT0⟩, b1⟩
  have HS := Lib.hid (fun (w0 : World) hr hg => CR.start (w := w) (mb := mb) (M := M) (g := fun _ p => p) h2 hT0 b1 (w0 := w0) hr hg)
  have q1 := Hq.out w1 b1
  have hown := (HM.out.below b1).own
  have hw1 : w.heap.size ≤ w1.heap.size := b1.size
  clear h2 hT0 b1
  go_wp2_with (first
    | (at_range; refine wpList_range_own _ rfl _ 123 rfl 3 128 intKeyed Try.underlying123 _ mb M.length _ rfl hown ?_; intro w0 hrg0 hg0 hs0)
    | go_in)
  go_frame
  have H0 := Lib.hid (HS.out w0 hrg0 hg0)
  clear hown q1 hrg0 hg0 hs0 HS
  go_loopw [4] (fun _ wr => ∃ (M2 : List (Int × PV)) (left : Lit → Bool) (cnt : Nat), Hid (CR w wr mb w1.heap.size sb2 mb2 M [] (fun _ p => p) M2 left cnt)) (fun _ wr => wr.rangeLeft mb w1.heap.size)
  case atStart => exact ⟨_, _, _, H0⟩
  case round =>
    obtain ⟨M2, left, cnt, HJ⟩ := hrel
    have hrg := HJ.out.1
    go_wp2_with (first
      | (at_next; refine wpList_next_g (w := wr) rfl _ rfl mb w1.heap.size M.length M left cnt rfl hrg ?_ ?_)
      | go_in)
    · intro _ hl0
      have HE : Hid (TabAt wr (addF (fun _ => False) w wr) sb2 T ∧ Below w.heap.size w wr) := Lib.hid ⟨⟨mb2, M2, HJ.out.2.1, by
        rw [← HT.out.2.2]
        refine extG (riseG_map.2 HJ.out.2.1.rise) (riseG_map.2 HM.out.rise) fun k => ?_
        rw [HJ.out.2.2.1 k, hl0]
        cases getG k (mapG PV.p M) <;> rfl⟩, HJ.out.2.2.2⟩
      clear hrg HJ H0
      go_wp2
      go_ret
      exact ⟨_, rfl, HE.out.1, HE.out.2⟩
    · intro k x w2 cnt1 hx hwx hlx hrg1 hlt hg1 hs1 hen
      obtain ⟨h1, b2⟩ := HJ.out.next hw1 hg1 hs1
      have hPg : PGood x.p := by
        have h9 : getG k T = some x.p := by rw [← HT.out.2.2, getG_map, hx]; rfl
        exact (HT.out.1.cl _ (getG_mem h9)).2.2
      have hpz := joinP_zero hPg
      obtain ⟨p1, p2, p3⟩ := PGood.parts hPg
      have Hcnt : Hid (wr.rangeLeft mb w1.heap.size = cnt) := Lib.hid hrg.left_eq
      have Hlen : Hid (M2.length ≤ 100000) := Lib.hid (by have h8 := HJ.out.len HM.out.rise List.Pairwise.nil; have h9 := HT.out.2.1; rw [← HT.out.2.2, mapG_len] at h9; simp only [List.length_nil] at h8; omega)
      have Hget := Lib.hid (fun (x' : PV) hp => CR.get (x := x) (x' := x') HJ.out.2.2.1 hx hp)
      obtain ⟨w3, hw3⟩ : ∃ w3, w2.alloc (.cells #[.int .i64 0, .map none] 128) = w3 := ⟨_, rfl⟩
      have x3 : Box w3 w2.heap.size 128 #[.int .i64 0, .map none] := hw3 ▸ Box.made _ _ _
      have u3 : Below w2.heap.size w2 w3 := hw3 ▸ below_box _
      obtain ⟨w4, hw4⟩ : ∃ w4, ((w3.setCell ⟨w2.heap.size, 0, none⟩ (.int .i64 x.fl)).setCell ⟨w2.heap.size, 1, none⟩ (.map (some x.ab))) = w4 := ⟨_, rfl⟩
      obtain ⟨x4, g4, s4⟩ := store2 x3 hw4
      have u4 : Below w2.heap.size w2 w4 := u3.grown g4 u3.size (fun g hg => by injection hg with hg; omega)
      have d0 : w3.cell? ⟨w2.heap.size, 0, none⟩ = some (.int .i64 0) := x3.cell 0
      have d1 : w3.cell? ⟨w2.heap.size, 1, none⟩ = some (.map none) := x3.cell 1
      have f0 : w3.frozen? ⟨w2.heap.size, 0, none⟩ = false := x3.frozen 0
      have f1 : w3.frozen? ⟨w2.heap.size, 1, none⟩ = false := x3.frozen 1
      unfold PV.v at hen
      have h4 := (h1.below u4).mono (G := addF (fun _ => False) w w4) (fun i hi => hi.elim .inl fun hi => .inr ⟨hi.1, Nat.lt_of_lt_of_le hi.2 u4.size⟩) (fun i hi => hi.elim False.elim fun hi => hi.2)
      have b4 : Below w.heap.size w w4 := b2.trans (u4.mono b2.size)
      have HS : Hid (∀ wx, Below w4.heap.size w4 wx → (wx.cell? ⟨sb2, 0, none⟩ = some (.map (some mb2)) ∧ wx.cell? ⟨w2.heap.size, 0, none⟩ = some (.int .i64 x.fl) ∧ wx.cell? ⟨w2.heap.size, 1, none⟩ = some (.map (some x.ab))) ∧ Box wx sb2 125 #[.map (some mb2)] ∧ Box wx w2.heap.size 128 #[.int .i64 x.fl, .map (some x.ab)]) := Lib.hid fun wx hx => by
        have a := h4.box.below hx h4.box.lt
        have b := x4.below hx x4.lt
        exact ⟨⟨a.cell 0, b.cell 0, b.cell 1⟩, a, b⟩
      have HSM : Hid (∀ wx, Box wx sb2 125 #[.map (some mb2)] → Box wx w2.heap.size 128 #[.int .i64 x.fl, .map (some x.ab)] → (wx.cell? ⟨sb2, 0, none⟩ = some (.map (some mb2)) ∧ wx.cell? ⟨w2.heap.size, 0, none⟩ = some (.int .i64 x.fl) ∧ wx.cell? ⟨w2.heap.size, 1, none⟩ = some (.map (some x.ab)))) := Lib.hid fun wx a b => ⟨a.cell 0, b.cell 0, b.cell 1⟩
      have HC := Lib.hid (fun (wx : World) (hx' : Below w4.heap.size w4 wx) => joined_any (w := wx) (Fa := F) (Fb := fun _ => False) (ma := some x.ab) (mb := none) (Ea := x.E) (Eb := []) x.fl 0 (((HM.out.ans k x hx).below (b4.trans (hx'.mono b4.size))) : AnsAt wx F x.ab x.E) (rfl : OfAt wx (fun _ => False) none []) p1 List.Pairwise.nil p2 (by simp) p3 (fun n e he => by cases he))
      have H4 := Lib.hid (And.intro h4 (And.intro b4 u4))
      have Hkn := Lib.hid (Maps.keyOf_int_mk (P := Try.prog) Try.underlying3 hwx)
      have Hpz : Hid (joinP ⟨x.fl, plE x.E⟩ ⟨0, plE []⟩ = x.p) := Lib.hid hpz
      have Hrg := Lib.hid hrg1
      have hmbl : mb < w.heap.size := HM.out.lt mb HM.out.mF
      clear h1 b2 hPg hpz p1 p2 p3 x3 u3 x4 g4 s4 u4 h4 b4 hrg hg1 hs1 HJ H0 hrg1 hx hwx
      go_wp2
      go_region_held3 (fun wx => (wx.cell? ⟨sb2, 0, none⟩ = some (.map (some mb2)) ∧ wx.cell? ⟨w2.heap.size, 0, none⟩ = some (.int .i64 x.fl) ∧ wx.cell? ⟨w2.heap.size, 1, none⟩ = some (.map (some x.ab))))
        (first | exact (HS.out _ (Below.refl _ _).drew).1 | exact (HS.out _ cR).1 | exact HSN.out)
        (first
          | (go_at_call 95; refine (HC.out _ (Below.refl _ _).drew).mono ?_; rintro e wR ⟨ab9, fl9, E9, rfl, aR, eR, bR⟩; have cR : Below w4.heap.size w4 wR := (Below.refl w4.heap.size w4).drew.trans bR; have hMR := (H4.out.1.below cR).own; obtain ⟨wN, hrM, mN, tN⟩ := hMR.store intKeyed Try.underlying123 (by have := Hlen.out; simp only [maxLen]; omega) Hkn.out (R := Rn) (val := .agg #[.int .i64 fl9, .map (some ab9)]) (d := .held (.agg #[.int .i64 fl9, .map (some ab9)])) (ps := []) rfl; have hrN : (Instr.mapUpdate 123 (.map (some mb2)) (.int .i64 k) (.agg #[.int .i64 fl9, .map (some ab9)])).run Try.prog wR = .ok () wN := hrM; have HSN := Lib.hid (HSM.out wN (mapTurned_box tN (HS.out wR cR).2.1) (mapTurned_box tN (HS.out wR cR).2.2))))
      have HE := Lib.hid (CR.put (w := w) (x := x) (mb := mb) (r := w1.heap.size) (M := M) (T0 := []) (g := fun _ p => p) (w3 := w4) (w2 := w2) H4.out.1 H4.out.2.1 Hget.out Hrg.out (H4.out.2.2.trans (cR.mono H4.out.2.2.size)) hmbl cR (aR.mono fun i _ hi => hi.elim False.elim fun hi => .inr (by simpa using hi)) (eR.trans Hpz.out) mN tN)
      clear hMR mN tN cR aR eR bR hrN hrM HS HSM HC HSN
      go_wp2
      go_roundw
      case rel => exact ⟨_, _, _, HE⟩
      case measure => rw [HE.out.1.left_eq, Hcnt.out]; omega
end
section
variable {F G : Nat → Prop} {w : World} {sa sb : Nat} {Ta Tb' : Tb}
set_option maxRecDepth 100000 in
set_option maxHeartbeats 12800000 in
theorem onceJoin_any (h : TabAt w F sa Ta) (hTa : TGood Ta) (hla : Ta.length ≤ 100000) (h' : TabAt w G sb Tb') (hTb : TGood Tb') (hlb : Tb'.length ≤ 100000) : Calls Try.prog 56 #[.pointer (some ⟨sa, 0, none⟩), .pointer (some ⟨sb, 0, none⟩)] w fun e w' => ∃ sb2, e = .returned (.pointer (some ⟨sb2, 0, none⟩)) ∧ TabAt w' (addF (fun _ => False) w w') sb2 (joinT Ta Tb') ∧ Below w.heap.size w w' := by
  have Hcopy := Lib.hid (onceCopy_any h hTa hla)
  obtain ⟨mb, M, hM, hMT⟩ := h'
  have HM := Lib.hid hM
  have HT := Lib.hid (And.intro hTb (And.intro hlb hMT))
  have HTa := Lib.hid (And.intro hTa hla)
  have Hq : Hid (∀ wx, Below w.heap.size w wx → wx.cell? ⟨sb, 0, none⟩ = some (.map (some mb))) := Lib.hid fun wx hx => (hM.below hx).cell
  clear hM hTb hlb hMT h hTa hla
  go_enter Try.func56, Try.ntmps56
  go_wp2_with fail
  refine Hcopy.out.mono ?_
  rintro e w1 ⟨sb2, rfl, ⟨mb2, M20, h2, hT0⟩, b1⟩
  have HS := Lib.hid (fun (w0 : World) hr hg => CR.start (w := w) (mb := mb) (M := M) (g := fun k p => joinP (getT k Ta) p) h2 hT0 b1 (w0 := w0) hr hg)
  have q1 := Hq.out w1 b1
  have hown := (HM.out.below b1).own
  have hw1 : w.heap.size ≤ w1.heap.size := b1.size
  clear h2 hT0 b1
  go_wp2_with (first
    | (at_range; refine wpList_range_own _ rfl _ 123 rfl 3 128 intKeyed Try.underlying123 _ mb M.length _ rfl hown ?_; intro w0 hrg0 hg0 hs0)
    | go_in)
  go_frame
  have H0 := Lib.hid (HS.out w0 hrg0 hg0)
  clear hown q1 hrg0 hg0 hs0 HS
  go_loopw [6] (fun _ wr => ∃ (M2 : List (Int × PV)) (left : Lit → Bool) (cnt : Nat), Hid (CR w wr mb w1.heap.size sb2 mb2 M Ta (fun k p => joinP (getT k Ta) p) M2 left cnt)) (fun _ wr => wr.rangeLeft mb w1.heap.size)
  case atStart => exact ⟨_, _, _, H0⟩
  case round =>
    obtain ⟨M2, left, cnt, HJ⟩ := hrel
    have hrg := HJ.out.1
    go_wp2_with (first
      | (at_next; refine wpList_next_g (w := wr) rfl _ rfl mb w1.heap.size M.length M left cnt rfl hrg ?_ ?_)
      | go_in)
    · intro _ hl0
      have HE : Hid (TabAt wr (addF (fun _ => False) w wr) sb2 (joinT Ta Tb') ∧ Below w.heap.size w wr) := Lib.hid ⟨⟨mb2, M2, HJ.out.2.1, by
        refine extG (riseG_map.2 HJ.out.2.1.rise) (joinT_rise _ _ HTa.out.1.rise) fun k => ?_
        rw [HJ.out.2.2.1 k, hl0, joinT_getG k _ _ HT.out.1.rise, HT.out.2.2]
        rfl⟩, HJ.out.2.2.2⟩
      clear hrg HJ H0
      go_wp2
      go_ret
      exact ⟨_, rfl, HE.out.1, HE.out.2⟩
    · intro k x w2 cnt1 hx hwx hlx hrg1 hlt hg1 hs1 hen
      obtain ⟨h1, b2⟩ := HJ.out.next hw1 hg1 hs1
      have hPg : PGood x.p := by
        have h9 : getG k Tb' = some x.p := by rw [← HT.out.2.2, getG_map, hx]; rfl
        exact (HT.out.1.cl _ (getG_mem h9)).2.2
      obtain ⟨p1, p2, p3⟩ := PGood.parts hPg
      have Hcnt : Hid (wr.rangeLeft mb w1.heap.size = cnt) := Lib.hid hrg.left_eq
      have Hlen : Hid (M2.length ≤ 200000) := Lib.hid (by have h8 := HJ.out.len HM.out.rise HTa.out.1.rise; have h9 := HT.out.2.1; rw [← HT.out.2.2, mapG_len] at h9; have := HTa.out.2; omega)
      have Hget := Lib.hid (fun (x' : PV) hp => CR.get (x := x) (x' := x') HJ.out.2.2.1 hx hp)
      have hold : getG k (mapG PV.p M2) = getG k Ta := by rw [HJ.out.2.2.1 k, if_pos hlx]
      obtain ⟨w3, hw3⟩ : ∃ w3, w2.alloc (.cells #[.int .i64 0, .map none] 128) = w3 := ⟨_, rfl⟩
      have x3 : Box w3 w2.heap.size 128 #[.int .i64 0, .map none] := hw3 ▸ Box.made _ _ _
      have u3 : Below w2.heap.size w2 w3 := hw3 ▸ below_box _
      obtain ⟨w4, hw4⟩ : ∃ w4, ((w3.setCell ⟨w2.heap.size, 0, none⟩ (.int .i64 x.fl)).setCell ⟨w2.heap.size, 1, none⟩ (.map (some x.ab))) = w4 := ⟨_, rfl⟩
      obtain ⟨x4, g4, s4⟩ := store2 x3 hw4
      have u4 : Below w2.heap.size w2 w4 := u3.grown g4 u3.size (fun g hg => by injection hg with hg; omega)
      have d0 : w3.cell? ⟨w2.heap.size, 0, none⟩ = some (.int .i64 0) := x3.cell 0
      have d1 : w3.cell? ⟨w2.heap.size, 1, none⟩ = some (.map none) := x3.cell 1
      have f0 : w3.frozen? ⟨w2.heap.size, 0, none⟩ = false := x3.frozen 0
      have f1 : w3.frozen? ⟨w2.heap.size, 1, none⟩ = false := x3.frozen 1
      unfold PV.v at hen
      have h4 := (h1.below u4).mono (G := addF (fun _ => False) w w4) (fun i hi => hi.elim .inl fun hi => .inr ⟨hi.1, Nat.lt_of_lt_of_le hi.2 u4.size⟩) (fun i hi => hi.elim False.elim fun hi => hi.2)
      have b4 : Below w.heap.size w w4 := b2.trans (u4.mono b2.size)
      obtain ⟨fq, mq, Eq, Fq, hlk, HQ⟩ : ∃ (fq : Int) (mq : Option Nat) (Eq : List (Int × AV)) (Fq : Nat → Prop), (Instr.lookup 123 (.map (some mb2)) (.int .i64 k) false).run Try.prog w4.drew = .ok (.agg #[.int .i64 fq, .map mq]) w4.drew ∧
          Hid ((∀ wx, Below w4.heap.size w4 wx → OfAt wx Fq mq Eq) ∧ (⟨fq, plE Eq⟩ : Pa) = getT k Ta ∧ RiseG Eq ∧ Eq.length ≤ 10 ∧ ∀ n e, getG n Eq = some e → e.p.Right) := by
        have hD := h4.below (Below.refl _ w4).drew
        obtain ⟨l0, l1⟩ := hD.look k hwx
        have hg2 := HTa.out.1.get k
        unfold getT at hg2 ⊢
        rw [← hold, getG_map] at hg2 ⊢
        cases hq : getG k M2 with
        | none => exact ⟨0, none, [], fun _ => False, (l0 hq).2, Lib.hid ⟨fun _ _ => rfl, rfl, List.Pairwise.nil, by simp, fun n e he => by cases he⟩⟩
        | some q =>
          rw [hq] at hg2
          obtain ⟨r1, r2, r3⟩ := PGood.parts (p := q) hg2
          exact ⟨q.fl, some q.ab, q.E, _, (l1 q hq).2, Lib.hid ⟨fun wx hx => (h4.ans k q hq).below hx, rfl, r1, r2, r3⟩⟩
      have HS : Hid (∀ wx, Below w4.heap.size w4 wx → (wx.cell? ⟨sb2, 0, none⟩ = some (.map (some mb2)) ∧ wx.cell? ⟨w2.heap.size, 0, none⟩ = some (.int .i64 x.fl) ∧ wx.cell? ⟨w2.heap.size, 1, none⟩ = some (.map (some x.ab))) ∧ Box wx sb2 125 #[.map (some mb2)] ∧ Box wx w2.heap.size 128 #[.int .i64 x.fl, .map (some x.ab)]) := Lib.hid fun wx hx => by
        have a := h4.box.below hx h4.box.lt
        have b := x4.below hx x4.lt
        exact ⟨⟨a.cell 0, b.cell 0, b.cell 1⟩, a, b⟩
      have HSM : Hid (∀ wx, Box wx sb2 125 #[.map (some mb2)] → Box wx w2.heap.size 128 #[.int .i64 x.fl, .map (some x.ab)] → (wx.cell? ⟨sb2, 0, none⟩ = some (.map (some mb2)) ∧ wx.cell? ⟨w2.heap.size, 0, none⟩ = some (.int .i64 x.fl) ∧ wx.cell? ⟨w2.heap.size, 1, none⟩ = some (.map (some x.ab)))) := Lib.hid fun wx a b => ⟨a.cell 0, b.cell 0, b.cell 1⟩
      have HC := Lib.hid (fun (wx : World) (hx' : Below w4.heap.size w4 wx) => joined_any (w := wx) (Fa := Fq) (Fb := G) (ma := mq) (mb := some x.ab) (Ea := Eq) (Eb := x.E) fq x.fl (HQ.out.1 wx hx') (((HM.out.ans k x hx).below (b4.trans (hx'.mono b4.size))) : AnsAt wx G x.ab x.E) HQ.out.2.2.1 p1 HQ.out.2.2.2.1 p2 HQ.out.2.2.2.2 p3)
      have H4 := Lib.hid (And.intro h4 (And.intro b4 u4))
      have Hkn := Lib.hid (Maps.keyOf_int_mk (P := Try.prog) Try.underlying3 hwx)
      have Hrg := Lib.hid hrg1
      have hmbl : mb < w.heap.size := HM.out.lt mb HM.out.mF
      clear h1 b2 hPg p1 p2 p3 x3 u3 x4 g4 s4 u4 h4 b4 hrg hg1 hs1 HJ H0 hrg1 hx hwx hold
      go_wp2
      go_region_held3 (fun wx => (wx.cell? ⟨sb2, 0, none⟩ = some (.map (some mb2)) ∧ wx.cell? ⟨w2.heap.size, 0, none⟩ = some (.int .i64 x.fl) ∧ wx.cell? ⟨w2.heap.size, 1, none⟩ = some (.map (some x.ab))))
        (first | exact (HS.out _ (Below.refl _ _).drew).1 | exact (HS.out _ cR).1 | exact HSN.out)
        (first
          | (go_at_call 95; refine (HC.out _ (Below.refl _ _).drew).mono ?_; rintro e wR ⟨ab9, fl9, E9, rfl, aR, eR, bR⟩; have cR : Below w4.heap.size w4 wR := (Below.refl w4.heap.size w4).drew.trans bR; have hMR := (H4.out.1.below cR).own; obtain ⟨wN, hrM, mN, tN⟩ := hMR.store intKeyed Try.underlying123 (by have := Hlen.out; simp only [maxLen]; omega) Hkn.out (R := Rn) (val := .agg #[.int .i64 fl9, .map (some ab9)]) (d := .held (.agg #[.int .i64 fl9, .map (some ab9)])) (ps := []) rfl; have hrN : (Instr.mapUpdate 123 (.map (some mb2)) (.int .i64 k) (.agg #[.int .i64 fl9, .map (some ab9)])).run Try.prog wR = .ok () wN := hrM; have HSN := Lib.hid (HSM.out wN (mapTurned_box tN (HS.out wR cR).2.1) (mapTurned_box tN (HS.out wR cR).2.2))))
      have HE := Lib.hid (CR.put (w := w) (x := x) (mb := mb) (r := w1.heap.size) (M := M) (T0 := Ta) (g := fun k p => joinP (getT k Ta) p) (w3 := w4) (w2 := w2) H4.out.1 H4.out.2.1 Hget.out Hrg.out (H4.out.2.2.trans (cR.mono H4.out.2.2.size)) hmbl cR (aR.mono fun i _ hi => hi.elim False.elim fun hi => .inr (by simpa using hi)) (eR.trans (by rw [HQ.out.2.1]; rfl)) mN tN)
      clear hMR mN tN cR aR eR bR hrN hrM HS HSM HC HSN hlk
      go_wp2
      go_roundw
      case rel => exact ⟨_, _, _, HE⟩
      case measure => rw [HE.out.1.left_eq, Hcnt.out]; omega
end
section
variable {B : Nat} {w : World} {l : List Ob} {k j sa sb : Nat} {Ta Tb' : Tb}
theorem s_copy (h : SepO B w l) (hB : B ≤ w.heap.size) (hk : l[k]? = some (.tab sa Ta)) (hla : Ta.length ≤ 100000) : Calls Try.prog 58 #[.pointer (some ⟨sa, 0, none⟩)] w fun e w' => ∃ sc, e = .returned (.pointer (some ⟨sc, 0, none⟩)) ∧ SepO B w' (l ++ [.tab sc Ta]) ∧ Below w.heap.size w w' := by
  obtain ⟨F, ⟨h1, h2⟩, -⟩ := h.at_ hk
  refine (onceCopy_any h1 h2 hla).mono ?_
  rintro e w' ⟨sc, rfl, g1, g2⟩
  exact ⟨sc, rfl, h.new sepOb hB g2 (o := .tab sc Ta) ⟨g1, h2⟩, g2⟩
theorem s_join (h : SepO B w l) (hB : B ≤ w.heap.size) (hk : l[k]? = some (.tab sa Ta)) (hj : l[j]? = some (.tab sb Tb')) (hla : Ta.length ≤ 100000) (hlb : Tb'.length ≤ 100000) : Calls Try.prog 56 #[.pointer (some ⟨sa, 0, none⟩), .pointer (some ⟨sb, 0, none⟩)] w fun e w' => ∃ sc, e = .returned (.pointer (some ⟨sc, 0, none⟩)) ∧ SepO B w' (l ++ [.tab sc (joinT Ta Tb')]) ∧ Below w.heap.size w w' := by
  obtain ⟨F, ⟨h1, h2⟩, -⟩ := h.at_ hk
  obtain ⟨G, ⟨h3, h4⟩, -⟩ := h.at_ hj
  refine (onceJoin_any h1 h2 hla h3 h4 hlb).mono ?_
  rintro e w' ⟨sc, rfl, g1, g2⟩
  exact ⟨sc, rfl, h.new sepOb hB g2 (o := .tab sc (joinT Ta Tb')) ⟨g1, joinT_good _ _ h2 h4⟩, g2⟩
end
end Go.Proofs.Ytdfhnjocpfjagaa

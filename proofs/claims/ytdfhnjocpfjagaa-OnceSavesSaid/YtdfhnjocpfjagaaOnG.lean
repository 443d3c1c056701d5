/- Package once: Keep. Condition: the table and the reply's record are in memory. -/
import Derived.Test.YtdfhnjocpfjagaaOnF
namespace Go.Proofs.Ytdfhnjocpfjagaa
open Go.RowKit

section
variable {F G : Nat → Prop} {w w1 w2 wN wM : World} {sb mb ab : Nat} {M : List (Int × PV)}
theorem KeptF.transW (h : KeptF F w w1) (k : KeptF G w1 w2) (hG : ∀ i, i < w.heap.size → G i → F i) : KeptF F w w2 :=
  ⟨k.os.trans h.os, k.tape.trans h.tape, k.output.trans h.output, Nat.le_trans h.size k.size, fun i hi hF => (k.block i (Nat.lt_of_lt_of_le hi h.size) (fun e => hF (hG i hi e))).trans (h.block i hi hF)⟩
theorem AnsAt.but {E : List (Int × AV)} {a : Nat} (h : AnsAt w F a E) (k : KeptF (fun i => i = ab) w wN) (hne : a ≠ ab) (hm : ab < w.heap.size → ∃ es c, w.heap[ab]? = some (.map es c)) : AnsAt wN F a E :=
  { h with
    own := mapL_keep h.own (k.block a h.own.lt hne)
    rows := fun n e he => ownL_keep (h.rows n e he) fun g hg => by
      have hl := (World.ownsRow.lt (h.rows n e he) g hg).2
      refine k.block g hl fun e1 => ?_
      subst e1
      obtain ⟨es, c, hm⟩ := hm hl
      obtain ⟨cs, hc⟩ := ownL_type (h.rows n e he) hg
      exact map_ne hc hm rfl }
/-- no row of values that was there has turned -/
def KV (w w' : World) : Prop := ∀ (i : Nat) (cs : Array Value), w.heap[i]? = some (Obj.cells cs 47) → w'.heap[i]? = w.heap[i]?
theorem KV.of {w w' : World} (h : Below w.heap.size w w') : KV w w' := fun i _ hi => h.block i (Array.getElem?_eq_some_iff.1 hi).1
theorem KV.trans {w w1 w2 : World} (h : KV w w1) (k : KV w1 w2) : KV w w2 := fun i cs hi => (k i cs ((h i cs hi).trans hi)).trans (h i cs hi)
theorem KV.own {w w' : World} {B : Nat} {v : Value} {l : List TVal} (h : KV w w') (ho : OwnVals w B v l) : OwnVals w' B v l := ownL_keep ho fun g hg => by
  obtain ⟨cs, hc⟩ := ownL_type ho hg
  exact h g cs hc
/-- a client's past has come, or has turned: its answers lie in block ab, of old or new -/
theorem TabM.turn (h : TabM w F sb mb M) {c : Int} {x : PV} {n : Nat} (hab : (∃ p, getG c M = some p ∧ p.ab = x.ab) ∨ w.heap.size ≤ x.ab) (k : KeptF (fun i => i = x.ab) w wN) (ha : AnsAt wN (addF F w wN) x.ab x.E)
    (hM : wM.ownsMap Try.prog 3 Rn mb n ((gmap PV.v M).put (.int .i64 c) (.held x.v))) (hT : wN.mapTurned wM mb) : TabM wM (addF F w wM) sb mb (putG c x M) ∧ KeptF F w wM ∧ KV w wM := by
  have hsz := mapTurned_size hT
  have hmap : x.ab < w.heap.size → ∃ es c, w.heap[x.ab]? = some (.map es c) := fun hl => by
    rcases hab with ⟨p, hp, e⟩ | hn
    · rw [← e]; exact mapL_block (h.ans c p hp).own
    · omega
  have hne : x.ab ≠ mb := fun e => by
    rcases hab with ⟨p, hp, e1⟩ | hn
    · exact h.ne c p hp (e1.trans e)
    · have := h.lt mb h.mF; omega
  have hsb : sb ≠ x.ab := fun e => by
    have hl := h.lt sb h.sF
    obtain ⟨es, c', hm⟩ := hmap (by omega)
    exact map_ne h.box hm e
  rw [gmap_put] at hM
  have hM2 := mapL_size hM
  rw [gmap_size] at hM2
  have sub : ∀ j q, getG j (putG c x M) = some q → (j = c ∧ q = x) ∨ (j ≠ c ∧ getG j M = some q) := fun j q hq => by
    rw [getG_put] at hq
    split at hq
    · next h1 => injection hq with hq; exact .inl ⟨h1.symm, hq.symm⟩
    · next h1 => exact .inr ⟨fun e => h1 e.symm, hq⟩
  have hq : ∀ j q, j ≠ c → getG j M = some q → q.ab ≠ x.ab := fun j q hj hq => by
    rcases hab with ⟨p, hp, e1⟩ | hn
    · rw [← e1]; exact h.apart j q c p hq hp hj
    · have := (h.ans j q hq).own.lt; omega
  have addM : ∀ i, addF F w wN i → addF F w wM i := fun i hi => hi.elim .inl fun hi => .inr (by omega)
  refine ⟨⟨.inl h.sF, .inl h.mF, fun i hi => hi.elim (fun hi => by have := h.lt i hi; have := k.size; omega) (fun hi => hi.2), mapTurned_box hT ((k.block sb (h.lt sb h.sF) hsb).trans h.box), hM2, riseG_put h.rise, ?_, ?_, ?_⟩, ?_, ?_⟩
  · intro j q hj
    rcases sub j q hj with ⟨rfl, rfl⟩ | ⟨hne', hj⟩
    · exact (ha.turned hT hne).mono fun i _ => addM i
    · exact (((h.ans j q hj).but k (hq j q hne' hj) hmap).turned hT (h.ne j q hj)).mono fun i _ hi => .inl hi
  · intro j q j' q' hj hj' hjj
    rcases sub j q hj with ⟨rfl, rfl⟩ | ⟨hne1, hj⟩
    · rcases sub j' q' hj' with ⟨rfl, rfl⟩ | ⟨hne2, hj'⟩
      · exact absurd rfl hjj
      · exact fun e => hq j' q' hne2 hj' e.symm
    · rcases sub j' q' hj' with ⟨e1, e2⟩ | ⟨hne2, hj'⟩
      · rw [e2]; exact hq j q hne1 hj
      · exact h.apart j q j' q' hj hj' hjj
  · intro j q hj
    rcases sub j q hj with ⟨rfl, rfl⟩ | ⟨-, hj⟩
    · exact hne
    · exact h.ne j q hj
  · have k1 : KeptF F w wN := ⟨k.os, k.tape, k.output, k.size, fun i hi hF => k.block i hi fun e => by
      have e : i = x.ab := e
      rcases hab with ⟨p, hp, e1⟩ | hn
      · exact hF (by rw [e, ← e1]; exact (h.ans c p hp).aF)
      · omega⟩
    exact k1.transW (KeptF.grown hT.grown rfl : KeptF (fun i => i = mb) wN wM) fun i _ e => e ▸ h.mF
  · intro i cs hi
    have hl := (Array.getElem?_eq_some_iff.1 hi).1
    have h1 := k.block i hl (fun e => by
      have e : i = x.ab := e
      obtain ⟨es, c', hm⟩ := hmap (by omega)
      rw [e] at hi
      exact map_ne hi hm rfl)
    have h2 : i ≠ mb := fun e => by
      obtain ⟨es, c', hm⟩ := mapL_block h.own
      exact map_ne hi hm e
    exact (mapTurned_block hT (Nat.lt_of_lt_of_le hl k.size) h2).trans h1
end
def KeepPost (F : Nat → Prop) (sb : Nat) (c n : Int) (r : Rp) (m : Nat) (T : Tb) (w : World) (e : Ending) (w' : World) : Prop :=
  e = .returned (.int .i64 (keepE c n r m T)) ∧ TabAt w' (addF F w w') sb (keepT c n r m T) ∧ KeptF F w w' ∧ KV w w'
theorem keep_not {F : Nat → Prop} {w w' : World} {sb m : Nat} {T : Tb} {c n : Int} {r : Rp} (h : TabAt w F sb T) (he : keepE c n r m T ≠ 0) (hb : Below w.heap.size w w') : KeepPost F sb c n r m T w (.returned (.int .i64 (keepE c n r m T))) w' := by
  refine ⟨rfl, ?_, KeptF.of hb, KV.of hb⟩
  unfold keepT
  rw [if_neg he]
  exact (h.below hb).add
theorem keep_done {F : Nat → Prop} {w wM : World} {sb mb m : Nat} {M : List (Int × PV)} {T : Tb} {c n fl : Int} {r : Rp} {x : PV} {E : List (Int × AV)} {ev : AV} (hMT : mapG PV.p M = T) (he : keepE c n r m T = 0) (h : TabM wM (addF F w wM) sb mb (putG c x M) ∧ KeptF F w wM ∧ KV w wM)
    (hg : (getT c T).fl = fl ∧ (getT c T).E = plE E) (hev : ev.p = r) (hx : (⟨x.fl, plE x.E⟩ : Pa) = narrowT ⟨fl, plE (putG n ev E)⟩) : KeepPost F sb c n r m T w (.returned (.int .i64 0)) wM := by
  refine ⟨by rw [he], ⟨mb, _, h.1, ?_⟩, h.2⟩
  unfold keepT putT
  rw [if_pos he, mapG_put, hMT, hg.1, hg.2]
  have e1 : plE (putG n ev E) = putG n r (plE E) := by unfold plE; rw [mapG_put, hev]
  rw [e1] at hx
  rw [← hx]
  rfl
section
variable {F : Nat → Prop} {w : World} {sb : Nat} {T : Tb}
set_option maxRecDepth 100000 in
set_option maxHeartbeats 12800000 in
theorem onceKeep_any (h : TabAt w F sb T) (hT : TGood T) (hTl : T.length ≤ 100000) (c n : Int) (hc : (Lit.int .i64 c).wf = true) (hn : (Lit.int .i64 n).wf = true) (r : Rp) (A : Option Addr) (rn d m : Nat) (X : Option Addr) (y B : Nat) (hr : HasVals w B A rn r.rc) (hrn : rn ≤ maxLen) (hB : B ≤ w.heap.size) (hi : ∀ v ∈ r.rc, InI64 v.n) :
    Calls Try.prog 53 #[.pointer (some ⟨sb, 0, none⟩), .int .i64 c, .int .i64 n, .agg #[.int .i64 r.code, .bool r.there, .slice A rn d, .slice X m y, .int .i64 r.id]] w (KeepPost F sb c n r m T w) := by
  obtain ⟨w1, hw1⟩ : ∃ w1, w.alloc (.cells #[.int .i64 r.code, .bool r.there, .slice A rn d, .slice X m y, .int .i64 r.id] 82) = w1 := ⟨_, rfl⟩
  have x1 : Box w1 w.heap.size 82 #[.int .i64 r.code, .bool r.there, .slice A rn d, .slice X m y, .int .i64 r.id] := hw1 ▸ Box.made _ _ _
  have b1 : Below w.heap.size w w1 := hw1 ▸ below_box _
  have Hrt := Lib.hid (right_any r A rn d m X y B w1 (hr.belowOf b1 hB) hrn (Nat.le_trans hB b1.size) hi)
  have H1 := Lib.hid (And.intro x1 b1)
  have Hsrc := Lib.hid hr
  have HB := Lib.hid hB
  have HT := Lib.hid hT
  have Hh := Lib.hid h
  have p0 : w1.cell? ⟨w.heap.size, 0, none⟩ = some (.int .i64 r.code) := x1.cell 0
  have p1 : w1.cell? ⟨w.heap.size, 1, none⟩ = some (.bool r.there) := x1.cell 1
  have p2 : w1.cell? ⟨w.heap.size, 2, none⟩ = some (.slice A rn d) := x1.cell 2
  have p3 : w1.cell? ⟨w.heap.size, 3, none⟩ = some (.slice X m y) := x1.cell 3
  have p4 : w1.cell? ⟨w.heap.size, 4, none⟩ = some (.int .i64 r.id) := x1.cell 4
  clear x1 b1 hr hB hi h hT
  by_cases hR : r.Right ∧ m = 0
  · rw [decide_eq_true hR] at Hrt
    have Hsz := Lib.hid (right_small hR.1)
    have HLk := Lib.hid (fun (wx : World) (hx : Below w.heap.size w wx) => onceLook_any (Hh.out.below hx) HT.out c n hc hn)
    have Hlk : Hid (∀ z, (lookT c n T).2 = z → keepE c n r m T = if z = 0 then 8 else if z ≠ 7 then z else 0) := Lib.hid fun z hz => by unfold keepE; rw [if_neg (fun h => h hR), hz]
    obtain ⟨R0, hR0⟩ : ∃ R0, lookT c n T = R0 := ⟨_, rfl⟩
    rw [hR0] at HLk Hlk
    have HR0 := Lib.hid hR0
    obtain ⟨r0, z⟩ := R0
    have He0 := Hlk.out z rfl
    have Hez := Lib.hid He0
    obtain ⟨kE, hkE⟩ : ∃ kE, keepE c n r m T = kE := ⟨_, rfl⟩
    have HkE := Lib.hid hkE
    have Hnot := Lib.hid (fun (he : kE ≠ 0) (w' : World) hb => keep_not (w := w) (w' := w') (c := c) (n := n) (r := r) (m := m) Hh.out (by rw [HkE.out]; exact he) hb)
    rw [hkE] at Hez Hnot
    clear hR hR0 He0 hkE Hlk
    go_enter Try.func53, Try.ntmps53
    go_wp2_with fail
    refine Hrt.out.mono ?_
    rintro e w2 ⟨rfl, b2⟩
    have H2 := Lib.hid (And.intro (H1.out.1.below b2 H1.out.1.lt) (H1.out.2.trans (b2.mono H1.out.2.size)))
    clear b2 p0 p1 p2 p3 p4
    go_wp2_with fail
    refine (HLk.out _ H2.out.2).mono ?_
    rintro e w3 ⟨v3, rfl, ⟨A3, c3, rfl, -⟩, b3⟩
    simp only
    obtain ⟨w4, hw4⟩ : ∃ w4, w3.alloc (.cells #[.int .i64 0, .bool false, .slice none 0 0, .slice none 0 0, .int .i64 0] 82) = w4 := ⟨_, rfl⟩
    have x4 : Box w4 w3.heap.size 82 #[.int .i64 0, .bool false, .slice none 0 0, .slice none 0 0, .int .i64 0] := hw4 ▸ Box.made _ _ _
    have u3 : Below w.heap.size w w3 := H2.out.2.trans (b3.mono H2.out.2.size)
    have v3 : Below w2.heap.size w2 w4 := hw4 ▸ b3.alloc b3.size _
    have u4 : Below w.heap.size w w4 := H2.out.2.trans (v3.mono H2.out.2.size)
    obtain ⟨w5, hw5⟩ : ∃ w5, (((((w4.setCell ⟨w3.heap.size, 0, none⟩ (.int .i64 r0.code)).setCell ⟨w3.heap.size, 1, none⟩ (.bool r0.there)).setCell ⟨w3.heap.size, 2, none⟩ (.slice A3 r0.rc.length c3)).setCell ⟨w3.heap.size, 3, none⟩ (.slice none 0 0)).setCell ⟨w3.heap.size, 4, none⟩ (.int .i64 r0.id)) = w5 := ⟨_, rfl⟩
    obtain ⟨x5, g5, s5⟩ := store5 x4 hw5
    have d0 : w4.cell? ⟨w3.heap.size, 0, none⟩ = some (.int .i64 0) := x4.cell 0
    have d1 : w4.cell? ⟨w3.heap.size, 1, none⟩ = some (.bool false) := x4.cell 1
    have d2 : w4.cell? ⟨w3.heap.size, 2, none⟩ = some (.slice none 0 0) := x4.cell 2
    have d3 : w4.cell? ⟨w3.heap.size, 3, none⟩ = some (.slice none 0 0) := x4.cell 3
    have d4 : w4.cell? ⟨w3.heap.size, 4, none⟩ = some (.int .i64 0) := x4.cell 4
    have f0 : w4.frozen? ⟨w3.heap.size, 0, none⟩ = false := x4.frozen 0
    have f1 : w4.frozen? ⟨w3.heap.size, 1, none⟩ = false := x4.frozen 1
    have f2 : w4.frozen? ⟨w3.heap.size, 2, none⟩ = false := x4.frozen 2
    have f3 : w4.frozen? ⟨w3.heap.size, 3, none⟩ = false := x4.frozen 3
    have f4 : w4.frozen? ⟨w3.heap.size, 4, none⟩ = false := x4.frozen 4
    have v5 : Below w2.heap.size w2 w5 := v3.grown g5 v3.size (fun g hg => by injection hg with hg; have := b3.size; omega)
    have H5 := Lib.hid (And.intro (H2.out.1.below v5 H2.out.1.lt) (H2.out.2.trans (v5.mono H2.out.2.size)))
    clear x4 u3 v3 u4 x5 g5 v5 b3 s5
    by_cases hz0 : z = 0
    · subst hz0
      have E : Hid (kE = 8) := Lib.hid Hez.out
      have HE : Hid (KeepPost F sb c n r m T w (.returned (.int .i64 8)) w5) := Lib.hid (by have h1 := Hnot.out (by rw [E.out]; decide) w5 H5.out.2; rw [E.out] at h1; exact h1)
      go_wp2
      go_ret
      exact HE.out
    · have hz0b : (z == 0) = false := by simpa using hz0
      by_cases hz7 : z = 7
      · subst hz7
        have He : Hid (keepE c n r m T = 0) := Lib.hid (by rw [HkE.out, Hez.out]; rfl)
        have hk7 : (lookT c n T).2 = 7 := by rw [HR0.out]
        have hgn := (lookT_ok hk7).2.2.2
        clear hz0 hz0b Hez HLk Hrt Hnot HkE hk7
        obtain ⟨mb, M, hM, hMT⟩ := Hh.out
        have HM := Lib.hid hM
        have HMT := Lib.hid hMT
        have HMl : Hid (M.length ≤ 100000) := Lib.hid (by rw [← hMT, mapG_len] at hTl; exact hTl)
        have hM5 := hM.below H5.out.2
        obtain ⟨l0, l1⟩ := hM5.look c hc
        have q5 : w5.cell? ⟨sb, 0, none⟩ = some (.map (some mb)) := hM5.cell
        have hgT := getT_pl c M
        rw [hMT] at hgT
        have Hkn := Lib.hid (Maps.keyOf_int_mk (P := Try.prog) Try.underlying3 hn)
        have Hkc := Lib.hid (Maps.keyOf_int_mk (P := Try.prog) Try.underlying3 hc)
        obtain ⟨pb, hpb⟩ : ∃ pb, w5.heap.size = pb := ⟨_, rfl⟩
        have Hpn : Hid (w.heap.size ≤ pb) := Lib.hid (hpb ▸ H5.out.2.size)
        obtain ⟨w6, hw6⟩ : ∃ w6, w5.alloc (.cells #[.int .i64 0, .map none] 128) = w6 := ⟨_, rfl⟩
        have s6 : w6.heap.size = pb + 1 := by rw [← hw6, ← hpb]; simp
        have y6 : Box w6 pb 128 #[.int .i64 0, .map none] := by have := Box.made w5 128 #[.int .i64 0, .map none]; rwa [hw6, hpb] at this
        have r6 : Box w6 w.heap.size 82 #[.int .i64 r.code, .bool r.there, .slice A rn d, .slice X m y, .int .i64 r.id] := hw6 ▸ H5.out.1.alloc _
        have u6 : Below w.heap.size w w6 := hw6 ▸ H5.out.2.alloc H5.out.2.size _
        have a0 : w6.cell? ⟨pb, 0, none⟩ = some (.int .i64 0) := y6.cell 0
        have a1 : w6.cell? ⟨pb, 1, none⟩ = some (.map none) := y6.cell 1
        have b0 : w6.frozen? ⟨pb, 0, none⟩ = false := y6.frozen 0
        have b1 : w6.frozen? ⟨pb, 1, none⟩ = false := y6.frozen 1
        have hrl := H1.out.1.lt
        have hpr : w.heap.size ≠ pb := by have := H5.out.1.lt; omega
        have Hsn0 : sb < w.heap.size := hM.lt sb hM.sF
        have Hmn0 : mb < w.heap.size := hM.lt mb hM.mF
        cases hg : getG c M with
        | none =>
          rw [hg] at hgT
          simp only at hgT
          obtain ⟨hl, -⟩ := l0 hg
          obtain ⟨fl, hfl⟩ : ∃ fl : Int, (0 : Int) = fl := ⟨_, rfl⟩
          obtain ⟨E, hE⟩ : ∃ E : List (Int × AV), ([] : List (Int × AV)) = E := ⟨_, rfl⟩
          have Hgt : Hid ((getT c T).fl = fl ∧ (getT c T).E = plE E) := Lib.hid (by rw [hgT, ← hfl, ← hE]; exact ⟨rfl, rfl⟩)
          obtain ⟨w7, hw7⟩ : ∃ w7, ((w6.setCell ⟨pb, 0, none⟩ (.int .i64 0)).setCell ⟨pb, 1, none⟩ (.map none)) = w7 := ⟨_, rfl⟩
          obtain ⟨y7, g7, s7⟩ := store2 y6 hw7
          have r7 := r6.grown g7 (fun e => by injection e with e; omega)
          have u7 := u6.grown g7 u6.size (fun g hg => by injection hg with hg; have := Hpn.out; omega)
          obtain ⟨ab, hab⟩ : ∃ ab, pb + 1 = ab := ⟨_, rfl⟩
          have hs7 : w7.heap.size = ab := by rw [s7, s6, hab]
          obtain ⟨w8, hw8⟩ : ∃ w8, w7.alloc (.map #[] 0) = w8 := ⟨_, rfl⟩
          have hmk := run_makeMap (P := Try.prog) 126 w7
          rw [hw8, hs7] at hmk
          have y8 : Box w8 pb 128 #[.int .i64 0, .map none] := hw8 ▸ y7.alloc _
          have r8 : Box w8 w.heap.size 82 #[.int .i64 r.code, .bool r.there, .slice A rn d, .slice X m y, .int .i64 r.id] := hw8 ▸ r7.alloc _
          have u8 : Below w.heap.size w w8 := hw8 ▸ u7.alloc u7.size _
          have a8 : AnsAt w8 (addF F w w8) ab [] := by
            have h9 := AnsAt.made (F := addF F w w8) w7 (.inr ⟨u7.size, by rw [← hw8]; simp⟩)
            rwa [hw8, hs7] at h9
          obtain ⟨W, hW⟩ : ∃ W, w8.setCell ⟨pb, 1, none⟩ (.map (some ab)) = W := ⟨_, rfl⟩
          have hPW : Box W pb 128 #[.int .i64 fl, .map (some ab)] := by rw [← hfl, ← hW]; exact y8.set_ 1 (.map (some ab))
          have hRW : Box W w.heap.size 82 #[.int .i64 r.code, .bool r.there, .slice A rn d, .slice X m y, .int .i64 r.id] := hW ▸ r8.far hpr _
          have hsW : W.heap.size = w8.heap.size := by rw [← hW]; simp
          have hAW : AnsAt W (addF F w W) ab E := by rw [← hE, addF_keep hsW, ← hW]; exact a8.set y8 types17.2.1 1 _
          have HW : Hid (Below w.heap.size w W) := Lib.hid (hW ▸ u8.setCell Hpn.out _)
          have HKW : Hid (KeptF (fun i => i = ab) w W) := Lib.hid (KeptF.of HW.out)
          have Hlen : Hid (E.length ≤ 1000) := Lib.hid (by rw [← hE]; simp)
          have hwa : w.heap.size ≤ ab := by have := Hpn.out; omega
          have Hab : Hid ((∃ p, getG c M = some p ∧ p.ab = ab) ∨ w.heap.size ≤ ab) := Lib.hid (.inr hwa)
          have Hmn : Hid (mb ≠ ab) := Lib.hid (by omega)
          have Hsn : Hid (sb ≠ ab) := Lib.hid (by omega)
          have k0 : w8.cell? ⟨pb, 0, none⟩ = some (.int .i64 0) := y8.cell 0
          have k1 : w8.cell? ⟨pb, 1, none⟩ = some (.map none) := y8.cell 1
          have t0 : w8.frozen? ⟨pb, 0, none⟩ = false := y8.frozen 0
          have t1 : w8.frozen? ⟨pb, 1, none⟩ = false := y8.frozen 1
          clear l0 l1 hM hM5 hMT hgT hg y6 r6 u6 y7 g7 s7 r7 u7 y8 r8 u8 a8 hsW hfl hE Hsn0 Hmn0 hrl hpr hgn hTl s6 hw1
          go_wp2
          have HS : Hid (∀ wx, Below W.heap.size W wx → (wx.cell? ⟨pb, 1, none⟩ = some (.map (some ab)) ∧ wx.cell? ⟨w.heap.size, 0, none⟩ = some (.int .i64 r.code) ∧ wx.cell? ⟨w.heap.size, 1, none⟩ = some (.bool r.there) ∧ wx.cell? ⟨w.heap.size, 2, none⟩ = some (.slice A rn d) ∧ wx.cell? ⟨w.heap.size, 3, none⟩ = some (.slice X m y) ∧ wx.cell? ⟨w.heap.size, 4, none⟩ = some (.int .i64 r.id)) ∧ Box wx pb 128 #[.int .i64 fl, .map (some ab)] ∧ Box wx w.heap.size 82 #[.int .i64 r.code, .bool r.there, .slice A rn d, .slice X m y, .int .i64 r.id]) := Lib.hid fun wx hx => by
            have a := hPW.below hx hPW.lt
            have b := hRW.below hx hRW.lt
            exact ⟨⟨a.cell 1, b.cell 0, b.cell 1, b.cell 2, b.cell 3, b.cell 4⟩, a, b⟩
          have HSM : Hid (∀ wx, Box wx pb 128 #[.int .i64 fl, .map (some ab)] → Box wx w.heap.size 82 #[.int .i64 r.code, .bool r.there, .slice A rn d, .slice X m y, .int .i64 r.id] → (wx.cell? ⟨pb, 1, none⟩ = some (.map (some ab)) ∧ wx.cell? ⟨w.heap.size, 0, none⟩ = some (.int .i64 r.code) ∧ wx.cell? ⟨w.heap.size, 1, none⟩ = some (.bool r.there) ∧ wx.cell? ⟨w.heap.size, 2, none⟩ = some (.slice A rn d) ∧ wx.cell? ⟨w.heap.size, 3, none⟩ = some (.slice X m y) ∧ wx.cell? ⟨w.heap.size, 4, none⟩ = some (.int .i64 r.id))) := Lib.hid fun wx a b => ⟨a.cell 1, b.cell 0, b.cell 1, b.cell 2, b.cell 3, b.cell 4⟩
          have HC : Hid (∀ wx, Below W.heap.size W wx → Calls Try.prog 87 #[.agg #[.int .i64 r.code, .bool r.there, .slice A rn d, .slice X m y, .int .i64 r.id]] wx fun e w' => ∃ A' c', e = .returned (.agg #[.int .i64 r.code, .bool r.there, .slice A' r.rc.length c', .slice none 0 0, .int .i64 r.id]) ∧ OwnVals w' wx.heap.size (.slice A' r.rc.length c') r.rc ∧ Below wx.heap.size wx w') := Lib.hid fun wx hx => copied_any r A rn d m X y B wx (Hsrc.out.belowOf (HW.out.trans (hx.mono HW.out.size)) HB.out) (Nat.le_trans HB.out (Nat.le_trans HW.out.size hx.size)) (by have := Hsz.out.1; have := Hsrc.out.1; omega) (fun v hv => by have := Hsz.out.2 v hv; omega)
          have hpm := hPW.lt
          obtain ⟨es, ec, hem⟩ := mapL_block hAW.own
          have hpa := map_ne hPW hem
          have HAW := Lib.hid hAW
          clear hPW hRW hAW hem
          go_region_held3 (fun wx => (wx.cell? ⟨pb, 1, none⟩ = some (.map (some ab)) ∧ wx.cell? ⟨w.heap.size, 0, none⟩ = some (.int .i64 r.code) ∧ wx.cell? ⟨w.heap.size, 1, none⟩ = some (.bool r.there) ∧ wx.cell? ⟨w.heap.size, 2, none⟩ = some (.slice A rn d) ∧ wx.cell? ⟨w.heap.size, 3, none⟩ = some (.slice X m y) ∧ wx.cell? ⟨w.heap.size, 4, none⟩ = some (.int .i64 r.id)))
            (first | exact (HS.out _ (Below.refl _ _).drew).1 | exact (HS.out _ cR).1 | exact HSN.out)
            (first
              | (go_at_call 87; refine (HC.out _ (Below.refl _ _).drew).mono ?_; rintro e wR ⟨A9, c9, rfl, oR, bR⟩; have cR : Below W.heap.size W wR := (Below.refl W.heap.size W).drew.trans bR; have hAR := HAW.out.below cR; obtain ⟨wN, hrM, mN, tN⟩ := hAR.own.store intKeyed Try.underlying126 (by have := Hlen.out; simp only [maxLen]; omega) Hkn.out (R := Rn) (val := .agg #[.int .i64 r.code, .bool r.there, .slice A9 r.rc.length c9, .slice none 0 0, .int .i64 r.id]) (d := .held (.agg #[.int .i64 r.code, .bool r.there, .slice A9 r.rc.length c9, .slice none 0 0, .int .i64 r.id])) (ps := []) rfl; have hrN : (Instr.mapUpdate 126 (.map (some ab)) (.int .i64 n) (.agg #[.int .i64 r.code, .bool r.there, .slice A9 r.rc.length c9, .slice none 0 0, .int .i64 r.id])).run Try.prog wR = .ok () wN := hrM; have HSN := Lib.hid (HSM.out wN (mapTurned_box tN (HS.out wR cR).2.1) (mapTurned_box tN (HS.out wR cR).2.2))))
          have hPN := mapTurned_box tN (HS.out wR cR).2.1
          have hAN : AnsAt wN (addF F w wN) ab (putG n ⟨r, A9, c9⟩ E) := AnsAt.put (x := ⟨r, A9, c9⟩) (hAR.mono (G := addF F w wN) fun i hi hF => hF.elim .inl fun hF => .inr ⟨hF.1, by have := mapTurned_size tN; have := bR.size; have := cR.size; omega⟩) (own_baseN oR (Nat.zero_le _)) (fun g hg => by have h1 := World.ownsRow.lt oR g hg; have h2 := mapTurned_size tN; have h3 := HW.out.size; exact .inr ⟨Nat.le_trans h3 (by have h4 := h1.1; simpa using h4), by omega⟩) mN tN
          have kN : KeptF (fun i => i = ab) w wN := (HKW.out.transW (KeptF.of cR : KeptF (fun _ => False) W wR) (fun _ _ e => e.elim)).trans0 (KeptF.grown tN.grown rfl)
          have Hnr := Lib.hid (narrow_any ⟨hPN, hAN⟩ (by have := putG_len n (⟨r, A9, c9⟩ : AV) E; have := Hlen.out; omega))
          have HKN := Lib.hid kN
          clear hPN hAN kN mN tN hAR cR oR bR hrN hrM HS HSM HC HSN
          go_wp2_with fail
          refine Hnr.out.mono ?_
          rintro e w7 ⟨rfl, fl7, E7, ⟨hP7, hA7⟩, hN7, k7⟩
          have k70 : KeptF (fun i => i = ab) w w7 := HKN.out.transW k7 fun i hi e => e.elim (fun e => absurd e (by have := Hpn.out; omega)) id
          have hM7 : w7.ownsMap Try.prog 3 Rn mb M.length (gmap PV.v M) := mapL_keep HM.out.own (k70.block mb (HM.out.lt mb HM.out.mF) Hmn.out)
          have hD7 : w7.drew.ownsMap Try.prog 3 Rn mb M.length (gmap PV.v M) := mapL_keep hM7 rfl
          obtain ⟨wM, hrM, mM, tM⟩ := hD7.store intKeyed Try.underlying123 (by have := HMl.out; simp only [maxLen]; omega) Hkc.out (R := Rn) (val := .agg #[.int .i64 fl7, .map (some ab)]) (d := .held (.agg #[.int .i64 fl7, .map (some ab)])) (ps := []) rfl
          have hsb7 : Box w7 sb 125 #[.map (some mb)] := (k70.block sb (HM.out.lt sb HM.out.sF) Hsn.out).trans HM.out.box
          have HE := Lib.hid (keep_done (ev := ⟨r, A9, c9⟩) (fl := fl) (n := n) (x := ⟨fl7, ab, E7⟩) (w := w) (F := F) HMT.out He.out (HM.out.turn (x := ⟨fl7, ab, E7⟩) (wN := w7.drew) (c := c) (n := M.length + 1) Hab.out ⟨k70.os, k70.tape, k70.output, k70.size, k70.block⟩ ((hA7.below (Below.refl _ _).drew).mono fun i hi hF => hF.elim .inl fun hF => .inr ⟨hF.1, hi⟩) mM tM) Hgt.out rfl hN7)
          have HS7 : Hid (∀ wx, wx = w7.drew ∨ wx = wM → wx.cell? ⟨sb, 0, none⟩ = some (.map (some mb)) ∧ wx.cell? ⟨pb, 0, none⟩ = some (.int .i64 fl7) ∧ wx.cell? ⟨pb, 1, none⟩ = some (.map (some ab))) := Lib.hid fun wx hx => by
            rcases hx with rfl | rfl
            · exact ⟨hsb7.cell 0, hP7.cell 0, hP7.cell 1⟩
            · exact ⟨(mapTurned_box tM (hsb7.below (Below.refl _ _).drew hsb7.lt)).cell 0, (mapTurned_box tM (hP7.below (Below.refl _ _).drew hP7.lt)).cell 0, (mapTurned_box tM (hP7.below (Below.refl _ _).drew hP7.lt)).cell 1⟩
          have hrN : (Instr.mapUpdate 123 (.map (some mb)) (.int .i64 c) (.agg #[.int .i64 fl7, .map (some ab)])).run Try.prog w7.drew = .ok () wM := hrM
          clear hP7 hA7 hN7 k7 k70 hM7 hD7 mM tM hsb7 hrM
          go_wp2
          go_region_held3 (fun wx => wx.cell? ⟨sb, 0, none⟩ = some (.map (some mb)) ∧ wx.cell? ⟨pb, 0, none⟩ = some (.int .i64 fl7) ∧ wx.cell? ⟨pb, 1, none⟩ = some (.map (some ab)))
            (first | exact HS7.out _ (.inl rfl) | exact HS7.out _ (.inr rfl))
            (fail)
          go_wp2
          go_ret
          exact HE.out
        | some p =>
          rw [hg] at hgT
          simp only at hgT
          obtain ⟨hl, -⟩ := l1 p hg
          obtain ⟨fl, ab, E⟩ := p
          simp only at hl
          have hP : PGood ⟨fl, plE E⟩ := by have := HT.out.get c; rwa [hgT] at this
          have Hgt : Hid ((getT c T).fl = fl ∧ (getT c T).E = plE E) := Lib.hid (by rw [hgT]; exact ⟨rfl, rfl⟩)
          obtain ⟨W, hW⟩ : ∃ W, ((w6.setCell ⟨pb, 0, none⟩ (.int .i64 fl)).setCell ⟨pb, 1, none⟩ (.map (some ab))) = W := ⟨_, rfl⟩
          obtain ⟨hPW, g7, s7⟩ := store2 y6 hW
          have hRW := r6.grown g7 (fun e => by injection e with e; omega)
          have HW : Hid (Below w.heap.size w W) := Lib.hid (u6.grown g7 u6.size (fun g hg => by injection hg with hg; have := Hpn.out; omega))
          have hAW : AnsAt W (addF F w W) ab E := ((hM.ans c _ hg).below HW.out).mono fun i _ hi => .inl hi
          have HKW : Hid (KeptF (fun i => i = ab) w W) := Lib.hid (KeptF.of HW.out)
          have Hlen : Hid (E.length ≤ 1000) := Lib.hid (by have h5 := hP.len; rw [plE_len] at h5; omega)
          have Hab : Hid ((∃ p, getG c M = some p ∧ p.ab = ab) ∨ w.heap.size ≤ ab) := Lib.hid (.inl ⟨_, hg, rfl⟩)
          have Hmn : Hid (mb ≠ ab) := Lib.hid (fun e => hM.ne c _ hg e.symm)
          have Hsn : Hid (sb ≠ ab) := Lib.hid (by obtain ⟨es, ec, hm⟩ := mapL_block (hM.ans c _ hg).own; exact map_ne hM.box hm)
          clear l0 l1 hM hM5 hMT hgT hg y6 r6 u6 g7 s7 Hsn0 Hmn0 hrl hpr hgn hTl s6 hw1 hP
          go_wp2
          have HS : Hid (∀ wx, Below W.heap.size W wx → (wx.cell? ⟨pb, 1, none⟩ = some (.map (some ab)) ∧ wx.cell? ⟨w.heap.size, 0, none⟩ = some (.int .i64 r.code) ∧ wx.cell? ⟨w.heap.size, 1, none⟩ = some (.bool r.there) ∧ wx.cell? ⟨w.heap.size, 2, none⟩ = some (.slice A rn d) ∧ wx.cell? ⟨w.heap.size, 3, none⟩ = some (.slice X m y) ∧ wx.cell? ⟨w.heap.size, 4, none⟩ = some (.int .i64 r.id)) ∧ Box wx pb 128 #[.int .i64 fl, .map (some ab)] ∧ Box wx w.heap.size 82 #[.int .i64 r.code, .bool r.there, .slice A rn d, .slice X m y, .int .i64 r.id]) := Lib.hid fun wx hx => by
            have a := hPW.below hx hPW.lt
            have b := hRW.below hx hRW.lt
            exact ⟨⟨a.cell 1, b.cell 0, b.cell 1, b.cell 2, b.cell 3, b.cell 4⟩, a, b⟩
          have HSM : Hid (∀ wx, Box wx pb 128 #[.int .i64 fl, .map (some ab)] → Box wx w.heap.size 82 #[.int .i64 r.code, .bool r.there, .slice A rn d, .slice X m y, .int .i64 r.id] → (wx.cell? ⟨pb, 1, none⟩ = some (.map (some ab)) ∧ wx.cell? ⟨w.heap.size, 0, none⟩ = some (.int .i64 r.code) ∧ wx.cell? ⟨w.heap.size, 1, none⟩ = some (.bool r.there) ∧ wx.cell? ⟨w.heap.size, 2, none⟩ = some (.slice A rn d) ∧ wx.cell? ⟨w.heap.size, 3, none⟩ = some (.slice X m y) ∧ wx.cell? ⟨w.heap.size, 4, none⟩ = some (.int .i64 r.id))) := Lib.hid fun wx a b => ⟨a.cell 1, b.cell 0, b.cell 1, b.cell 2, b.cell 3, b.cell 4⟩
          have HC : Hid (∀ wx, Below W.heap.size W wx → Calls Try.prog 87 #[.agg #[.int .i64 r.code, .bool r.there, .slice A rn d, .slice X m y, .int .i64 r.id]] wx fun e w' => ∃ A' c', e = .returned (.agg #[.int .i64 r.code, .bool r.there, .slice A' r.rc.length c', .slice none 0 0, .int .i64 r.id]) ∧ OwnVals w' wx.heap.size (.slice A' r.rc.length c') r.rc ∧ Below wx.heap.size wx w') := Lib.hid fun wx hx => copied_any r A rn d m X y B wx (Hsrc.out.belowOf (HW.out.trans (hx.mono HW.out.size)) HB.out) (Nat.le_trans HB.out (Nat.le_trans HW.out.size hx.size)) (by have := Hsz.out.1; have := Hsrc.out.1; omega) (fun v hv => by have := Hsz.out.2 v hv; omega)
          have hpm := hPW.lt
          obtain ⟨es, ec, hem⟩ := mapL_block hAW.own
          have hpa := map_ne hPW hem
          have HAW := Lib.hid hAW
          clear hPW hRW hAW hem
          go_region_held3 (fun wx => (wx.cell? ⟨pb, 1, none⟩ = some (.map (some ab)) ∧ wx.cell? ⟨w.heap.size, 0, none⟩ = some (.int .i64 r.code) ∧ wx.cell? ⟨w.heap.size, 1, none⟩ = some (.bool r.there) ∧ wx.cell? ⟨w.heap.size, 2, none⟩ = some (.slice A rn d) ∧ wx.cell? ⟨w.heap.size, 3, none⟩ = some (.slice X m y) ∧ wx.cell? ⟨w.heap.size, 4, none⟩ = some (.int .i64 r.id)))
            (first | exact (HS.out _ (Below.refl _ _).drew).1 | exact (HS.out _ cR).1 | exact HSN.out)
            (first
              | (go_at_call 87; refine (HC.out _ (Below.refl _ _).drew).mono ?_; rintro e wR ⟨A9, c9, rfl, oR, bR⟩; have cR : Below W.heap.size W wR := (Below.refl W.heap.size W).drew.trans bR; have hAR := HAW.out.below cR; obtain ⟨wN, hrM, mN, tN⟩ := hAR.own.store intKeyed Try.underlying126 (by have := Hlen.out; simp only [maxLen]; omega) Hkn.out (R := Rn) (val := .agg #[.int .i64 r.code, .bool r.there, .slice A9 r.rc.length c9, .slice none 0 0, .int .i64 r.id]) (d := .held (.agg #[.int .i64 r.code, .bool r.there, .slice A9 r.rc.length c9, .slice none 0 0, .int .i64 r.id])) (ps := []) rfl; have hrN : (Instr.mapUpdate 126 (.map (some ab)) (.int .i64 n) (.agg #[.int .i64 r.code, .bool r.there, .slice A9 r.rc.length c9, .slice none 0 0, .int .i64 r.id])).run Try.prog wR = .ok () wN := hrM; have HSN := Lib.hid (HSM.out wN (mapTurned_box tN (HS.out wR cR).2.1) (mapTurned_box tN (HS.out wR cR).2.2))))
          have hPN := mapTurned_box tN (HS.out wR cR).2.1
          have hAN : AnsAt wN (addF F w wN) ab (putG n ⟨r, A9, c9⟩ E) := AnsAt.put (x := ⟨r, A9, c9⟩) (hAR.mono (G := addF F w wN) fun i hi hF => hF.elim .inl fun hF => .inr ⟨hF.1, by have := mapTurned_size tN; have := bR.size; have := cR.size; omega⟩) (own_baseN oR (Nat.zero_le _)) (fun g hg => by have h1 := World.ownsRow.lt oR g hg; have h2 := mapTurned_size tN; have h3 := HW.out.size; exact .inr ⟨Nat.le_trans h3 (by have h4 := h1.1; simpa using h4), by omega⟩) mN tN
          have kN : KeptF (fun i => i = ab) w wN := (HKW.out.transW (KeptF.of cR : KeptF (fun _ => False) W wR) (fun _ _ e => e.elim)).trans0 (KeptF.grown tN.grown rfl)
          have Hnr := Lib.hid (narrow_any ⟨hPN, hAN⟩ (by have := putG_len n (⟨r, A9, c9⟩ : AV) E; have := Hlen.out; omega))
          have HKN := Lib.hid kN
          clear hPN hAN kN mN tN hAR cR oR bR hrN hrM HS HSM HC HSN
          go_wp2_with fail
          refine Hnr.out.mono ?_
          rintro e w7 ⟨rfl, fl7, E7, ⟨hP7, hA7⟩, hN7, k7⟩
          have k70 : KeptF (fun i => i = ab) w w7 := HKN.out.transW k7 fun i hi e => e.elim (fun e => absurd e (by have := Hpn.out; omega)) id
          have hM7 : w7.ownsMap Try.prog 3 Rn mb M.length (gmap PV.v M) := mapL_keep HM.out.own (k70.block mb (HM.out.lt mb HM.out.mF) Hmn.out)
          have hD7 : w7.drew.ownsMap Try.prog 3 Rn mb M.length (gmap PV.v M) := mapL_keep hM7 rfl
          obtain ⟨wM, hrM, mM, tM⟩ := hD7.store intKeyed Try.underlying123 (by have := HMl.out; simp only [maxLen]; omega) Hkc.out (R := Rn) (val := .agg #[.int .i64 fl7, .map (some ab)]) (d := .held (.agg #[.int .i64 fl7, .map (some ab)])) (ps := []) rfl
          have hsb7 : Box w7 sb 125 #[.map (some mb)] := (k70.block sb (HM.out.lt sb HM.out.sF) Hsn.out).trans HM.out.box
          have HE := Lib.hid (keep_done (ev := ⟨r, A9, c9⟩) (fl := fl) (n := n) (x := ⟨fl7, ab, E7⟩) (w := w) (F := F) HMT.out He.out (HM.out.turn (x := ⟨fl7, ab, E7⟩) (wN := w7.drew) (c := c) (n := M.length + 1) Hab.out ⟨k70.os, k70.tape, k70.output, k70.size, k70.block⟩ ((hA7.below (Below.refl _ _).drew).mono fun i hi hF => hF.elim .inl fun hF => .inr ⟨hF.1, hi⟩) mM tM) Hgt.out rfl hN7)
          have HS7 : Hid (∀ wx, wx = w7.drew ∨ wx = wM → wx.cell? ⟨sb, 0, none⟩ = some (.map (some mb)) ∧ wx.cell? ⟨pb, 0, none⟩ = some (.int .i64 fl7) ∧ wx.cell? ⟨pb, 1, none⟩ = some (.map (some ab))) := Lib.hid fun wx hx => by
            rcases hx with rfl | rfl
            · exact ⟨hsb7.cell 0, hP7.cell 0, hP7.cell 1⟩
            · exact ⟨(mapTurned_box tM (hsb7.below (Below.refl _ _).drew hsb7.lt)).cell 0, (mapTurned_box tM (hP7.below (Below.refl _ _).drew hP7.lt)).cell 0, (mapTurned_box tM (hP7.below (Below.refl _ _).drew hP7.lt)).cell 1⟩
          have hrN : (Instr.mapUpdate 123 (.map (some mb)) (.int .i64 c) (.agg #[.int .i64 fl7, .map (some ab)])).run Try.prog w7.drew = .ok () wM := hrM
          clear hP7 hA7 hN7 k7 k70 hM7 hD7 mM tM hsb7 hrM
          go_wp2
          go_region_held3 (fun wx => wx.cell? ⟨sb, 0, none⟩ = some (.map (some mb)) ∧ wx.cell? ⟨pb, 0, none⟩ = some (.int .i64 fl7) ∧ wx.cell? ⟨pb, 1, none⟩ = some (.map (some ab)))
            (first | exact HS7.out _ (.inl rfl) | exact HS7.out _ (.inr rfl))
            (fail)
          go_wp2
          go_ret
          exact HE.out
      · have E : Hid (kE = z) := Lib.hid (by rw [Hez.out, if_neg hz0, if_pos hz7])
        have hz7b : (z != 7) = true := by simpa using hz7
        have hz7c : (z == 7) = false := by simpa using hz7
        have HE : Hid (KeepPost F sb c n r m T w (.returned (.int .i64 z)) w5) := Lib.hid (by have h1 := Hnot.out (by rw [E.out]; exact hz0) w5 H5.out.2; rw [E.out] at h1; exact h1)
        clear hz0 hz7
        go_wp2
        go_ret
        exact HE.out
  · rw [decide_eq_false hR] at Hrt
    have E : Hid (keepE c n r m T = 1) := Lib.hid (by unfold keepE; rw [if_pos hR])
    have Hnot := Lib.hid (fun (w' : World) hb => keep_not (w := w) (w' := w') (c := c) (n := n) (r := r) (m := m) Hh.out (by rw [E.out]; decide) hb)
    clear hR
    go_enter Try.func53, Try.ntmps53
    go_wp2_with fail
    refine Hrt.out.mono ?_
    rintro e w2 ⟨rfl, b2⟩
    have HE : Hid (KeepPost F sb c n r m T w (.returned (.int .i64 1)) w2) := Lib.hid (by have h1 := Hnot.out w2 (H1.out.2.trans (b2.mono H1.out.2.size)); rw [E.out] at h1; exact h1)
    clear b2
    go_wp2
    go_ret
    exact HE.out
end
end Go.Proofs.Ytdfhnjocpfjagaa

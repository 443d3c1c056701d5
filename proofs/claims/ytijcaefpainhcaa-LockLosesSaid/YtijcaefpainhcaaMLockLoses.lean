/- LockLoses: what is lost is locked by nobody any more, and all else is as it was. No condition. -/
import Derived.Test.YtijcaefpainhcaaOpen
import Derived.Test.YtijcaefpainhcaaSpecDo
import Derived.Deep.Slices
import Derived.Test.YtijcaefpainhcaaRkF
import Derived.Test.YtijcaefpainhcaaRngQ
import Derived.Deep.RegionHeld3
import Derived.Test.YtijcaefpainhcaaOpenRng
import Derived.Test.YtijcaefpainhcaaRow
namespace Go.Proofs.Ytijcaefpainhcaa
open Go.ChangeShapes Go.WideShapes Go.ChangeAt Go.RowKit

instance : Inhabited LA := ⟨⟨0, 0, ⟨⟨#[]⟩, ⟨#[]⟩⟩⟩⟩
theorem la_step (a : Addr) (p j : Nat) (hj : 0 < j) : a.add (p + j) = ⟨(a.add p).block, (a.add p).off + j, none⟩ := by
  rw [← addr_add]
  generalize a.add p = b
  unfold Addr.add
  rw [if_neg (by omega)]
/-- the four cells of an act -/
def LaAt (w : World) (b : Addr) (o : LA) : Prop := w.cell? b = some (.int .i64 o.kind) ∧ w.cell? ⟨b.block, b.off + 1, none⟩ = some (.int .i64 o.id) ∧ w.cell? ⟨b.block, b.off + 2, none⟩ = some (.string o.r.lo) ∧ w.cell? ⟨b.block, b.off + 3, none⟩ = some (.string o.r.hi)
/-- n acts, from A on, in memory below block B -/
def HasLas (w : World) (B : Nat) (A : Option Addr) (n : Nat) (l : List LA) : Prop :=
  l.length = n ∧ ∀ i o, l[i]? = some o → ∃ a : Addr, A = some a ∧ a.block < B ∧ LaAt w (a.add (i * 4)) o
theorem HasLas.belowOf {w w' : World} {B C n : Nat} {A : Option Addr} {l : List LA} (h : HasLas w B A n l) (hb : Below C w w') (hC : B ≤ C) : HasLas w' B A n l :=
  ⟨h.1, fun i o ho => by
    obtain ⟨a, e, h1, h2, h3, h4, h5⟩ := h.2 i o ho
    have k : ∀ p : Addr, p.block = a.block → w'.cell? p = w.cell? p := fun p hp => hb.cell (by omega)
    exact ⟨a, e, h1, (k _ (addr_block _ _)).trans h2, (k _ (by simp [addr_block])).trans h3, (k _ (by simp [addr_block])).trans h4, (k _ (by simp [addr_block])).trans h5⟩⟩
theorem HasLas.at_ {w : World} {B n : Nat} {A : Option Addr} {l : List LA} (h : HasLas w B A n l) {i : Nat} (hi : i < n) : ∃ (a : Addr) (o : LA), A = some a ∧ a.block < B ∧ l[i]? = some o ∧ LaAt w (a.add (i * 4)) o := by
  have hil : i < l.length := by have := h.1; omega
  obtain ⟨a, e, r⟩ := h.2 i l[i] (List.getElem?_eq_getElem hil)
  exact ⟨a, _, e, r.1, List.getElem?_eq_getElem hil, r.2⟩
/-- an act's number is one, its texts fit -/
def LaOk (u : LA) : Prop := (-9223372036854775808 ≤ u.id ∧ u.id ≤ 9223372036854775807) ∧ u.r.lo.size ≤ maxLen ∧ u.r.hi.size ≤ maxLen
section
variable {H : Type} {enc : TypeId × Value → H} {P : Program} {W : World}
theorem open_las {t e : TypeId} {f0 f1 f2 g0 g1 : Field} {r : Reach} {base : Nat} {v : Value} {d : DataW H} {ps : List MemPlace} (ht : P.underlying t = some (.slice e)) (he : P.underlying e = some (.struct #[f0, f1, f2])) (hC : P.cellsOf e = 4)
    (ho : f0.offset = 0 ∧ f1.offset = 1 ∧ f2.offset = 2) (hc : P.cellsOf f0.type = 1 ∧ P.cellsOf f1.type = 1 ∧ P.cellsOf f2.type = 2)
    (hu : P.underlying f0.type = some (.int .i64) ∧ P.underlying f1.type = some (.int .i64) ∧ P.underlying f2.type = some (.struct #[g0, g1]))
    (go : g0.offset = 0 ∧ g1.offset = 1) (gc : P.cellsOf g0.type = 1 ∧ P.cellsOf g1.type = 1) (gu : P.underlying g0.type = some .string ∧ P.underlying g1.type = some .string)
    (hval : Value.okWide P W r base t v) (h : DataW.Trod enc P W 0 (fun _ => true) true t v d ps) (hlt : ∀ x ∈ ps, x.block < W.heap.size) :
    ∃ (A : Option Addr) (n c : Nat) (l : List LA), v = .slice A n c ∧ n ≤ maxLen ∧ n ≤ c ∧ HasLas W W.heap.size A n l ∧ ∀ u ∈ l, LaOk u := by
  obtain ⟨A, n, c, rfl⟩ := okWide_slice ht hval
  obtain ⟨fuel, hf⟩ := h
  rcases Go.Deep.open_slice ht hf with ⟨hcs, _⟩ | ⟨a, len, cap, m, n', D, Pl, hcs, _, hle, hmax, hm, hx, hi⟩
  · simp [Value.cells] at hcs
    obtain ⟨rfl, rfl, rfl⟩ := hcs
    exact ⟨none, 0, 0, [], rfl, by simp [maxLen], Nat.le_refl _, ⟨rfl, by simp⟩, by simp⟩
  · simp [Value.cells] at hcs
    obtain ⟨rfl, rfl, rfl⟩ := hcs
    simp only [if_true] at hm
    have hm2 := hm.symm
    subst hm2
    have hone : ∀ i, i < n → ∃ u : LA, LaAt W (a.add (i * 4)) u ∧ LaOk u := by
      intro i hin
      obtain ⟨cs', hcells, htrod⟩ := hi i (by omega)
      rw [hC] at hcells
      obtain ⟨_, hlen, hat⟩ := World.cells?_some hcells
      obtain ⟨xs, n1, _, _, _, _, hg⟩ := DataW.trod_struct he htrod
      match cs', hlen with
      | [w0, w1, w2, w3], _ =>
        have k0 := hg 0 f0 rfl
        have k1 := hg 1 f1 rfl
        have k2 := hg 2 f2 rfl
        rw [ho.1, hc.1] at k0
        rw [ho.2.1, hc.2.1] at k1
        rw [ho.2.2, hc.2.2] at k2
        have hxs : xs.length = 3 := by assumption
        match xs, hxs with
        | [y0, y1, y2], _ =>
          obtain ⟨z0, e0, _, _⟩ := DataW.trod_int hu.1 k0
          obtain ⟨z1, e1, _, wf1⟩ := DataW.trod_int hu.2.1 k1
          obtain ⟨xs2, n2, _, _, _, _, hg2⟩ := DataW.trod_struct hu.2.2 k2
          have hxs2 : xs2.length = 2 := by assumption
          match xs2, hxs2 with
          | [v0, v1], _ =>
            have m0 := hg2 0 g0 rfl
            have m1 := hg2 1 g1 rfl
            rw [go.1, gc.1] at m0
            rw [go.2, gc.2] at m1
            obtain ⟨z2, e2, _, hz2⟩ := DataW.trod_string gu.1 m0
            obtain ⟨z3, e3, _, hz3⟩ := DataW.trod_string gu.2 m1
            simp at e0 e1 e2 e3
            subst e0
            subst e1
            subst e2
            subst e3
            have c0 := hat 0 (by omega)
            have c1 := hat 1 (by omega)
            have c2 := hat 2 (by omega)
            have c3 := hat 3 (by omega)
            rw [Go.Deep.add_add] at c0 c1 c2 c3
            rw [la_step a _ 1 (by omega)] at c1
            rw [la_step a _ 2 (by omega)] at c2
            rw [la_step a _ 3 (by omega)] at c3
            have b1 := bounds_i64 wf1
            exact ⟨⟨z0, z1, ⟨z2, z3⟩⟩, ⟨c0, c1, c2, c3⟩, by dsimp only; omega, hz2, hz3⟩
    obtain ⟨f, hfv⟩ := Go.Deep.choose_lt hone
    refine ⟨some a, n, c, (List.range n).map f, rfl, by omega, hle, ⟨by simp, fun i o hio => ?_⟩, ?_⟩
    · have hin : i < n := by have := (List.getElem?_eq_some_iff.1 hio).1; simpa using this
      have eo : f i = o := by simpa [hin] using hio
      refine ⟨a, rfl, ?_, eo ▸ (hfv i hin).1⟩
      simp only [Prod.mk.injEq] at hx
      obtain ⟨p, hp, hpb⟩ := row_block (a := a) (n := c * P.cellsOf e) (by rw [hC]; omega)
      rw [← hpb]
      refine hlt p ?_
      rw [hx.2]
      exact List.mem_append_left _ hp
    · intro u hu'
      obtain ⟨i, hin, rfl⟩ := List.mem_map.1 hu'
      exact (hfv i (List.mem_range.1 hin)).2
end
end Go.Proofs.Ytijcaefpainhcaa

namespace Go.Proofs.Ytijcaefpainhcaa
open Go.RowKit Go.Maps

def LightL (n : Nat) (l : List LA) (w : World) (e : Ending) (w' : World) : Prop := ∃ b, e = .returned (.bool b) ∧ (b = true → n < 100 ∧ ∀ u ∈ l, u.r.lo.size ≤ 200 ∧ u.r.hi.size ≤ 200) ∧ Below w.heap.size w w'
set_option maxRecDepth 100000 in
set_option maxHeartbeats 1600000 in
theorem light16_any (A : Option Addr) (n c C : Nat) (l : List LA) (w : World) (h : HasLas w C A n l) (hC : C ≤ w.heap.size) (hn : n ≤ maxLen) (hs : ∀ u ∈ l, LaOk u) :
    Calls Try.prog 26 #[.slice A n c] w (LightL n l w) := by
  unfold maxLen at hn
  have H := Lib.hid h
  have Hl := Lib.hid h.1
  have Hs := Lib.hid hs
  clear h hs
  go_enter Try.func26, Try.ntmps26
  go_wp2
  go_loopw [3] (fun iv wr => ∃ k : Nat, k ≤ n ∧ iv = .int .i64 (k : Int) ∧ Hid ((∀ u ∈ l.take k, u.r.lo.size ≤ 200 ∧ u.r.hi.size ≤ 200) ∧ Below w.heap.size w wr)) (fun iv _ => n - (intOf iv).toNat)
  case atStart => exact ⟨0, by omega, rfl, Lib.hid ⟨by simp, Below.refl _ _⟩⟩
  case round =>
    obtain ⟨k, hk, rfl, Hp⟩ := hrel
    by_cases hlt : k < n
    · have hk0 : (0 : Int) ≤ (k : Int) := by omega
      have hk1 : (k : Int) < (n : Int) := by omega
      by_cases hkm : k < 100
      · obtain ⟨a, y, rfl, hab, hy, c0, c1, c2, c3⟩ := (H.out.belowOf Hp.out.2 hC).at_ hlt
        have Hts : Hid (l.take (k + 1) = l.take k ++ [y]) := Lib.hid (by rw [List.take_add_one, hy]; rfl)
        have hys := (Hs.out y (List.mem_of_getElem? hy)).2
        have hkm2 : decide ((k : Int) < 100) = true := decide_eq_true (by omega)
        obtain ⟨yk, yi, ⟨yl, yh⟩⟩ := y
        simp only at c0 c1 c2 c3 hys
        obtain ⟨w2, hw2⟩ : ∃ w2, wr.alloc (.cells #[.string yl, .string yh] 23) = w2 := ⟨_, rfl⟩
        have Hli := Lib.hid (lightR_any (some ⟨wr.heap.size, 0, none⟩) 1 1 (wr.heap.size + 1) 1 [⟨yl, yh⟩] w2 (hw2 ▸ one_lit wr ⟨yl, yh⟩) (by simp [maxLen]) (fun r hr => by simp at hr; subst hr; exact hys))
        have Hb2 : Hid (Below w.heap.size w w2) := Lib.hid (hw2 ▸ Hp.out.2.trans ((below_box _).mono Hp.out.2.size))
        clear hy hys hab c0 c1
        go_wp2_with fail
        refine Hli.out.mono ?_
        rintro e w3 ⟨b, rfl, hb, rfl⟩
        cases b with
        | false =>
          go_wp2
          go_ret
          exact ⟨_, rfl, by simp, Hb2.out⟩
        | true =>
          have Hp1 : Hid ((∀ u ∈ l.take (k + 1), u.r.lo.size ≤ 200 ∧ u.r.hi.size ≤ 200) ∧ Below w.heap.size w w3) := Lib.hid ⟨by
            rw [Hts.out]
            intro u hu
            rcases List.mem_append.1 hu with hu | hu
            · exact Hp.out.1 u hu
            · simp at hu; subst hu; exact (hb rfl).2 ⟨yl, yh⟩ (by simp), Hb2.out⟩
          clear hb
          go_wp2
          go_roundw
          case rel => exact ⟨k + 1, by omega, by go_num, Hp1⟩
          case measure => simp [intOf]; omega
      · have hkm2 : decide ((k : Int) < 100) = false := decide_eq_false (by omega)
        have hnm : decide ((n : Int) < 100) = false := decide_eq_false (by omega)
        go_wp2
        go_ret
        exact ⟨false, ret_bool (by simp), by simp, Hp.out.2⟩
    · obtain rfl : k = n := by omega
      have HE : Hid (LightL k l w (.returned (.bool (decide ((k : Int) < 100)))) wr) := Lib.hid ⟨_, rfl, fun hd => ⟨by have := of_decide_eq_true hd; omega, by
        have h1 := Hp.out.1
        rwa [List.take_of_length_le (by have := Hl.out; omega)] at h1⟩, Hp.out.2⟩
      go_wp2
      go_ret
      have h9 := HE.out
      simpa using h9
/-! ### one table, and both side by side -/
/-- the pointer to block sb is a table with the locks E, above block B -/
def LS (B : Nat) (w : World) (sb mb : Nat) (lease : Int) (E : List TL) : Prop := ∃ F M, LkAt w F sb mb lease M ∧ pl M = E ∧ ∀ i, F i → B ≤ i
structure PS (B : Nat) (w : World) (F G : Nat → Prop) (sb mb rb : Nat) (v : Value) (lease lease2 now : Int) (M : List LE) (R : List RE) : Prop where
  lk : LkAt w F sb mb lease M
  rf : RfAt w G rb v lease2 now R
  dis : ∀ i, F i → ¬ G i
  fB : ∀ i, F i → B ≤ i
  gB : ∀ i, G i → B ≤ i
section
variable {B : Nat} {w w' wx wA wB : World} {F G : Nat → Prop} {sb mb rb : Nat} {v v' : Value} {lease lease2 now now' : Int} {M M' : List LE} {R R' : List RE}
theorem PS.below (h : PS B w F G sb mb rb v lease lease2 now M R) (hb : Below w.heap.size w w') : PS B w' F G sb mb rb v lease lease2 now M R := ⟨h.lk.below hb, h.rf.below hb, h.dis, h.fB, h.gB⟩
/-- behind a call of the table's -/
theorem PS.prog (h : PS B w F G sb mb rb v lease lease2 now M R) (k : KeptF F w w') (hl : LkAt w' (addF F w w') sb mb lease M') (hB : B ≤ w.heap.size) : PS B w' (addF F w w') G sb mb rb v lease lease2 now M' R :=
  ⟨hl, h.rf.other k fun i hi hf => h.dis i hf hi, fun i hi hg => hi.elim (fun hf => h.dis i hf hg) (fun hi => by have := h.rf.lt i hg; omega), addF_ge h.fB hB, h.gB⟩
/-- behind a call of the document's table -/
theorem PS.ref (h : PS B w F G sb mb rb v lease lease2 now M R) (k : KeptF G w w') (hl : RfAt w' (addF G w w') rb v' lease2 now' R') (hB : B ≤ w.heap.size) : PS B w' F (addF G w w') sb mb rb v' lease lease2 now' M R' :=
  ⟨h.lk.other k h.dis, hl, fun i hf hi => hi.elim (h.dis i hf) (fun hi => by have := h.lk.lt i hf; omega), h.fB, addF_ge h.gB hB⟩
/-- both have done their part: what is left, and a box of the caller's -/
theorem PS.two {b : Nat} {t : TypeId} {cs : Array Value} (h : PS B w F G sb mb rb v lease lease2 now M R) (hB : B ≤ w.heap.size) (kA : KeptF F w wA) (lA : LkAt wA (addF F w wA) sb mb lease M') (kB : KeptF G wA wB) (rB : RfAt wB (addF G wA wB) rb v' lease2 now' R') :
    PS B wB (addF F w wA) (addF G wA wB) sb mb rb v' lease lease2 now' M' R' ∧ Below B w wB ∧ (Box w b t cs → ¬ F b → ¬ G b → Box wA b t cs ∧ Box wB b t cs) := by
  have h1 := h.prog kA lA hB
  have bA := kA.below h.fB hB
  have h2 := h1.ref kB rB (Nat.le_trans hB kA.size)
  refine ⟨h2, bA.trans (kB.below h.gB (Nat.le_trans hB kA.size)), fun hb hf hg => ?_⟩
  have x := (kA.block b hb.lt hf).trans hb
  exact ⟨x, (kB.block b (Nat.lt_of_lt_of_le hb.lt kA.size) hg).trans x⟩
end
end Go.Proofs.Ytijcaefpainhcaa

namespace Go.Proofs.Ytijcaefpainhcaa
open Go.RowKit Go.Maps

/-- what the document's table has to be for an act -/
structure RIn (now : Int) (R : List RE) : Prop where
  rise : RiseL (rl R)
  len : R.length ≤ 9000
  rows : ∀ e ∈ R, e.p.L.length ≤ 9000
  left : ∀ e ∈ R, 0 ≤ e.p.left ∧ e.p.left ≤ now
  now : 0 ≤ now ∧ now ≤ 100000
theorem wf_of {k : Int} (h : -9223372036854775808 ≤ k ∧ k ≤ 9223372036854775807) : (Lit.int .i64 k).wf = true := by
  have h1 : IntKind.i64.min = -9223372036854775808 := by decide
  have h2 : IntKind.i64.max = 9223372036854775807 := by decide
  simpa only [Lit.wf, h1, h2, Bool.and_eq_true, decide_eq_true_eq] using h
def DoPost (B : Nat) (w : World) (sb mb rb : Nat) (lease lease2 now : Int) (N : Nat) (a : LA) (E R : List TL) (e : Ending) (w' : World) : Prop :=
  e = .returned (.bool (tellT a E R)) ∧ TInv lease (N + 1) (stepT lease a E) ∧ Below B w w' ∧ ∃ F G v M' R', PS B w' F G sb mb rb v lease lease2 (nowR now a) M' R' ∧ pl M' = stepT lease a E ∧ rl R' = stepR lease2 now a R
theorem beq_dec (x y : Bool) : (x == y) = decide (x = y) := by cases x <;> cases y <;> rfl
section
variable {B : Nat} {w : World} {F G : Nat → Prop} {sb mb rb : Nat} {v : Value} {lease lease2 now : Int} {M : List LE} {R : List RE} {N : Nat}
theorem DoPost.of {wx wA wB : World} {M' : List LE} {R' : List RE} {v' : Value} {a : LA} (h : PS B wx F G sb mb rb v lease lease2 now M R) (hb : Below w.heap.size w wx) (hB : B ≤ w.heap.size) (kA : KeptF F wx wA) (lA : LkAt wA (addF F wx wA) sb mb lease M') (kB : KeptF G wA wB) (rB : RfAt wB (addF G wA wB) rb v' lease2 (nowR now a) R')
    (hI : TInv lease (N + 1) (stepT lease a (pl M))) (e1 : pl M' = stepT lease a (pl M)) (e2 : rl R' = stepR lease2 now a (rl R)) {res : Bool} (hr : res = tellT a (pl M) (rl R)) : DoPost B w sb mb rb lease lease2 now N a (pl M) (rl R) (.returned (.bool res)) wB := by
  obtain ⟨a1, a2, -⟩ := h.two (t := 0) (b := 0) (cs := #[]) (Nat.le_trans hB hb.size) kA lA kB rB
  exact ⟨by rw [hr], hI, (hb.mono hB).trans a2, _, _, _, _, _, a1, e1, e2⟩
set_option maxRecDepth 100000 in
set_option maxHeartbeats 12800000 in
theorem do_any (h : PS B w F G sb mb rb v lease lease2 now M R) (hB : B ≤ w.heap.size) (hI : TInv lease N (pl M)) (hl : 1 ≤ lease ∧ lease ≤ 9223372036854775807) (hN : N ≤ 9000) (hR : RIn now R) (a : LA) (ha : LaOk a) (hs : a.r.lo.size ≤ 200 ∧ a.r.hi.size ≤ 200) :
    Calls Try.prog 29 #[.pointer (some ⟨sb, 0, none⟩), .pointer (some ⟨rb, 0, none⟩), .agg #[.int .i64 a.kind, .int .i64 a.id, .string a.r.lo, .string a.r.hi]] w (DoPost B w sb mb rb lease lease2 now N a (pl M) (rl R)) := by
  obtain ⟨w1, hw1⟩ : ∃ w1, w.alloc (.cells #[.int .i64 a.kind, .int .i64 a.id, .string a.r.lo, .string a.r.hi] 47) = w1 := ⟨_, rfl⟩
  have b1 : Below w.heap.size w w1 := hw1 ▸ below_box _
  have x1 : Box w1 w.heap.size 47 #[.int .i64 a.kind, .int .i64 a.id, .string a.r.lo, .string a.r.hi] := hw1 ▸ Box.made _ _ _
  have hF : ¬ F w.heap.size := fun e => by have := h.lk.lt _ e; omega
  have hG : ¬ G w.heap.size := fun e => by have := h.rf.lt _ e; omega
  have H1 := Lib.hid (And.intro (h.below b1) (And.intro b1 (And.intro x1 (And.intro hF (And.intro hG hB)))))
  have HI := Lib.hid (And.intro hI (And.intro hl (And.intro hN (And.intro hR (And.intro ha hs)))))
  have hwf := wf_of ha.1
  have d0 : w1.cell? ⟨w.heap.size, 0, none⟩ = some (.int .i64 a.kind) := x1.cell 0
  have d1 : w1.cell? ⟨w.heap.size, 1, none⟩ = some (.int .i64 a.id) := x1.cell 1
  have d2 : w1.cell? ⟨w.heap.size, 2, none⟩ = some (.string a.r.lo) := x1.cell 2
  have d3 : w1.cell? ⟨w.heap.size, 3, none⟩ = some (.string a.r.hi) := x1.cell 3
  have HBx : Hid (∀ wx, Box wx w.heap.size 47 #[.int .i64 a.kind, .int .i64 a.id, .string a.r.lo, .string a.r.hi] → wx.cell? ⟨w.heap.size, 0, none⟩ = some (.int .i64 a.kind) ∧ wx.cell? ⟨w.heap.size, 1, none⟩ = some (.int .i64 a.id) ∧ wx.cell? ⟨w.heap.size, 2, none⟩ = some (.string a.r.lo) ∧ wx.cell? ⟨w.heap.size, 3, none⟩ = some (.string a.r.hi)) := Lib.hid fun wx hx => ⟨hx.cell 0, hx.cell 1, hx.cell 2, hx.cell 3⟩
  have hbA : ∀ {wx wA : World}, Below w1.heap.size w1 wx → KeptF F wx wA → Box wA w.heap.size 47 #[.int .i64 a.kind, .int .i64 a.id, .string a.r.lo, .string a.r.hi] := fun {wx wA} hb k => by
    have y := H1.out.2.2.1.below hb H1.out.2.2.1.lt
    exact (k.block _ y.lt H1.out.2.2.2.1).trans y
  have HBA := Lib.hid (fun (wx wA : World) hb k => hbA (wx := wx) (wA := wA) hb k)
  have hbB : ∀ {wA wB : World}, Box wA w.heap.size 47 #[.int .i64 a.kind, .int .i64 a.id, .string a.r.lo, .string a.r.hi] → KeptF G wA wB → Box wB w.heap.size 47 #[.int .i64 a.kind, .int .i64 a.id, .string a.r.lo, .string a.r.hi] := fun {wA wB} y k =>
    (k.block _ y.lt H1.out.2.2.2.2.1).trans y
  have HBB := Lib.hid (fun (wA wB : World) y k => hbB (wA := wA) (wB := wB) y k)
  clear h hI hl hN hR ha hs b1 x1 hF hG hB hbA hbB
  obtain ⟨kd, hkd⟩ : ∃ kd, a.kind = kd := ⟨_, rfl⟩
  rw [hkd] at d0 hw1 ⊢
  simp only [hkd] at HBx HBA HBB H1
  have Hkd := Lib.hid hkd
  clear hkd
  by_cases h1 : kd = 1
  · subst h1
    have HP := Lib.hid (fun wx (hx : Below w1.heap.size w1 wx) => lockTake_any (H1.out.1.lk.below hx) HI.out.1 HI.out.2.1.1 (by have := HI.out.2.2.1; omega) a.id hwf a.r HI.out.2.2.2.2.2)
    have HR := Lib.hid (fun wA (g : RfAt wA G rb v lease2 now R) => refTake16_any g HI.out.2.2.2.1.rise (by have := HI.out.2.2.2.1.len; omega) (fun e he => by have := HI.out.2.2.2.1.rows e he; omega) a.id a.r)
    have S1 := HBx.out w1 H1.out.2.2.1
    unfold ragg at *
    go_enter Try.func29, Try.ntmps29
    go_wp2
    go_region_held3 (fun wx => wx.cell? ⟨w.heap.size, 0, none⟩ = some (.int .i64 1) ∧ wx.cell? ⟨w.heap.size, 1, none⟩ = some (.int .i64 a.id) ∧ wx.cell? ⟨w.heap.size, 2, none⟩ = some (.string a.r.lo) ∧ wx.cell? ⟨w.heap.size, 3, none⟩ = some (.string a.r.hi))
      (first | exact SB.out | exact SA.out | exact HBx.out _ (H1.out.2.2.1.below (Below.refl _ w1).drew H1.out.2.2.1.lt) | exact S1)
      (first
        | (go_at_call 39; refine (HP.out _ (Below.refl _ _).drew).mono ?_; rintro ee wA ⟨rfl, hT, M', lA, eM, kA⟩; have BA := Lib.hid (HBA.out _ _ (Below.refl _ _).drew kA); have SA := Lib.hid (HBx.out _ BA.out); have PA := Lib.hid ((H1.out.1.below (Below.refl _ _).drew).rf.other kA fun i hi hf => H1.out.1.dis i hf hi); have HA := Lib.hid (And.intro kA (And.intro (lA) (And.intro eM hT))))
        | (go_at_call 59; refine (HR.out wA PA.out).mono ?_; rintro ee wB ⟨rfl, v', R', rB, eR, kB⟩; have SB := Lib.hid (HBx.out _ (HBB.out _ _ BA.out kB)); have HBr := Lib.hid (And.intro kB (And.intro (rB) eR))))
    have HE : Hid (DoPost B w sb mb rb lease lease2 now N a (pl M) (rl R) (.returned (.bool true)) wB) := Lib.hid (DoPost.of (H1.out.1.below (Below.refl _ _).drew) (H1.out.2.1.trans ((Below.refl _ w1).drew.mono H1.out.2.1.size)) H1.out.2.2.2.2.2 HA.out.1 HA.out.2.1 HBr.out.1 (by unfold nowR; rw [Hkd.out]; exact HBr.out.2.1) (by unfold stepT; rw [Hkd.out]; exact HA.out.2.2.2) (by unfold stepT; rw [Hkd.out]; exact HA.out.2.2.1) (by unfold stepR; rw [Hkd.out]; exact HBr.out.2.2) (by unfold tellT; rw [Hkd.out]; rfl))
    clear SA SB PA BA HA HBr kA kB rB eR
    go_wp2
    go_ret
    exact HE.out
  by_cases h2 : kd = 2
  · subst h2
    have HP := Lib.hid (fun wx (hx : Below w1.heap.size w1 wx) => lockRenew_any (H1.out.1.lk.below hx) a.id hwf)
    have HR := Lib.hid (fun wA (g : RfAt wA G rb v lease2 now R) => refRenew16_any g HI.out.2.2.2.1.rise (by have := HI.out.2.2.2.1.len; omega) a.id)
    have S1 := HBx.out w1 H1.out.2.2.1
    unfold ragg at *
    go_enter Try.func29, Try.ntmps29
    go_wp2
    go_region_held3 (fun wx => wx.cell? ⟨w.heap.size, 0, none⟩ = some (.int .i64 2) ∧ wx.cell? ⟨w.heap.size, 1, none⟩ = some (.int .i64 a.id) ∧ wx.cell? ⟨w.heap.size, 2, none⟩ = some (.string a.r.lo) ∧ wx.cell? ⟨w.heap.size, 3, none⟩ = some (.string a.r.hi))
      (first | exact SB.out | exact SA.out | exact HBx.out _ (H1.out.2.2.1.below (Below.refl _ w1).drew H1.out.2.2.1.lt) | exact S1)
      (first
        | (go_at_call 58; refine (HP.out _ (Below.refl _ _).drew).mono ?_; rintro ee wA ⟨rfl, M', lA, eM, kA⟩; have BA := Lib.hid (HBA.out _ _ (Below.refl _ _).drew kA); have SA := Lib.hid (HBx.out _ BA.out); have PA := Lib.hid ((H1.out.1.below (Below.refl _ _).drew).rf.other kA fun i hi hf => H1.out.1.dis i hf hi); have HA := Lib.hid (And.intro kA (And.intro (LkAt.add (w := w1.drew) lA) (And.intro eM trivial))))
        | (go_at_call 60; refine (HR.out wA PA.out).mono ?_; rintro ee wB ⟨rfl, v', R', rB, eR, kB⟩; have SB := Lib.hid (HBx.out _ (HBB.out _ _ BA.out kB)); have HBr := Lib.hid (And.intro kB (And.intro (RfAt.add (w := wA) rB) eR))))
    have HE : Hid (DoPost B w sb mb rb lease lease2 now N a (pl M) (rl R) (.returned (.bool ((getL a.id (pl M)).isSome == (getL a.id (rl R)).isSome))) wB) := Lib.hid (DoPost.of (H1.out.1.below (Below.refl _ _).drew) (H1.out.2.1.trans ((Below.refl _ w1).drew.mono H1.out.2.1.size)) H1.out.2.2.2.2.2 HA.out.1 HA.out.2.1 HBr.out.1 (by unfold nowR; rw [Hkd.out]; exact HBr.out.2.1) (by unfold stepT; rw [Hkd.out]; exact (HI.out.1.renew ⟨HI.out.2.1.1, Int.le_refl _⟩).more (Nat.le_succ _)) (by unfold stepT; rw [Hkd.out]; exact HA.out.2.2.1) (by unfold stepR; rw [Hkd.out]; exact HBr.out.2.2) (by unfold tellT; rw [Hkd.out]; exact beq_dec _ _))
    clear SA SB PA BA HA HBr kA kB rB eR
    go_wp2
    go_ret
    exact HE.out
  by_cases h3 : kd = 3
  · subst h3
    have HP := Lib.hid (fun wx (hx : Below w1.heap.size w1 wx) => lockFree_any (H1.out.1.lk.below hx) a.id hwf)
    have HR := Lib.hid (fun wA (g : RfAt wA G rb v lease2 now R) => refFree16_any g HI.out.2.2.2.1.rise (by have := HI.out.2.2.2.1.len; omega) a.id)
    have S1 := HBx.out w1 H1.out.2.2.1
    unfold ragg at *
    go_enter Try.func29, Try.ntmps29
    go_wp2
    go_region_held3 (fun wx => wx.cell? ⟨w.heap.size, 0, none⟩ = some (.int .i64 3) ∧ wx.cell? ⟨w.heap.size, 1, none⟩ = some (.int .i64 a.id) ∧ wx.cell? ⟨w.heap.size, 2, none⟩ = some (.string a.r.lo) ∧ wx.cell? ⟨w.heap.size, 3, none⟩ = some (.string a.r.hi))
      (first | exact SB.out | exact SA.out | exact HBx.out _ (H1.out.2.2.1.below (Below.refl _ w1).drew H1.out.2.2.1.lt) | exact S1)
      (first
        | (go_at_call 41; refine (HP.out _ (Below.refl _ _).drew).mono ?_; rintro ee wA ⟨rfl, M', lA, eM, kA⟩; have BA := Lib.hid (HBA.out _ _ (Below.refl _ _).drew kA); have SA := Lib.hid (HBx.out _ BA.out); have PA := Lib.hid ((H1.out.1.below (Below.refl _ _).drew).rf.other kA fun i hi hf => H1.out.1.dis i hf hi); have HA := Lib.hid (And.intro kA (And.intro (LkAt.add (w := w1.drew) lA) (And.intro eM trivial))))
        | (go_at_call 61; refine (HR.out wA PA.out).mono ?_; rintro ee wB ⟨rfl, v', R', rB, eR, kB⟩; have SB := Lib.hid (HBx.out _ (HBB.out _ _ BA.out kB)); have HBr := Lib.hid (And.intro kB (And.intro (rB) eR))))
    have HE : Hid (DoPost B w sb mb rb lease lease2 now N a (pl M) (rl R) (.returned (.bool ((getL a.id (pl M)).isSome == (getL a.id (rl R)).isSome))) wB) := Lib.hid (DoPost.of (H1.out.1.below (Below.refl _ _).drew) (H1.out.2.1.trans ((Below.refl _ w1).drew.mono H1.out.2.1.size)) H1.out.2.2.2.2.2 HA.out.1 HA.out.2.1 HBr.out.1 (by unfold nowR; rw [Hkd.out]; exact HBr.out.2.1) (by unfold stepT; rw [Hkd.out]; exact (HI.out.1.free _).more (Nat.le_succ _)) (by unfold stepT; rw [Hkd.out]; exact HA.out.2.2.1) (by unfold stepR; rw [Hkd.out]; exact HBr.out.2.2) (by unfold tellT; rw [Hkd.out]; exact beq_dec _ _))
    clear SA SB PA BA HA HBr kA kB rB eR
    go_wp2
    go_ret
    exact HE.out
  by_cases h4 : kd = 4
  · subst h4
    have HP := Lib.hid (fun wx (hx : Below w1.heap.size w1 wx) => lockTick_any (H1.out.1.lk.below hx) (fun p hp => ⟨(HI.out.1.one p hp).left.1, Int.le_trans (HI.out.1.one p hp).left.2 HI.out.2.1.2⟩))
    have HR := Lib.hid (fun wA (g : RfAt wA G rb v lease2 now R) => refTick16_any g (by have := HI.out.2.2.2.1.len; omega) ⟨HI.out.2.2.2.1.now.1, by have := HI.out.2.2.2.1.now.2; omega⟩ HI.out.2.2.2.1.left)
    go_enter Try.func29, Try.ntmps29
    go_wp2_with fail
    refine (HP.out _ (Below.refl _ _)).mono ?_
    rintro ee wA ⟨rfl, M', lA, eM, kA⟩
    have PA := Lib.hid (H1.out.1.rf.other kA fun i hi hf => H1.out.1.dis i hf hi)
    have HA := Lib.hid (And.intro kA (And.intro lA eM))
    clear kA lA eM
    go_wp2_with fail
    refine (HR.out wA PA.out).mono ?_
    rintro ee wB ⟨rfl, v', R', rB, eR, kB⟩
    have HBr := Lib.hid (And.intro kB (And.intro rB eR))
    clear kB rB eR
    have HE : Hid (DoPost B w sb mb rb lease lease2 now N a (pl M) (rl R) (.returned (.bool true)) wB) := Lib.hid (DoPost.of H1.out.1 H1.out.2.1 H1.out.2.2.2.2.2 HA.out.1 HA.out.2.1 HBr.out.1 (by unfold nowR; rw [Hkd.out]; exact HBr.out.2.1) (by unfold stepT; rw [Hkd.out]; exact HI.out.1.tick.more (Nat.le_succ _)) (by unfold stepT; rw [Hkd.out]; exact HA.out.2.2) (by unfold stepR; rw [Hkd.out]; exact HBr.out.2.2) (by unfold tellT; rw [Hkd.out]; rfl))
    go_wp2
    go_ret
    exact HE.out
  by_cases h5 : kd = 5
  · subst h5
    have HP := Lib.hid (fun wx (hx : Below w1.heap.size w1 wx) => lockLose_any (H1.out.1.lk.below hx) HI.out.1 (by have := HI.out.2.2.1; omega) a.r HI.out.2.2.2.2.2)
    have HR := Lib.hid (fun wA (g : RfAt wA G rb v lease2 now R) => refLose16_any g (by have := HI.out.2.2.2.1.len; omega) (fun e he => by have := HI.out.2.2.2.1.rows e he; omega) a.r)
    unfold ragg at *
    go_enter Try.func29, Try.ntmps29
    go_wp2_with fail
    refine (HP.out _ (Below.refl _ _)).mono ?_
    rintro ee wA ⟨rfl, hT, M', lA, eM, kA⟩
    have PA := Lib.hid (H1.out.1.rf.other kA fun i hi hf => H1.out.1.dis i hf hi)
    obtain ⟨-, -, d2, d3⟩ := HBx.out _ (HBA.out _ _ (Below.refl _ _) kA)
    have HA := Lib.hid (And.intro kA (And.intro lA (And.intro eM hT)))
    clear kA lA eM hT
    go_wp2_with fail
    refine (HR.out wA PA.out).mono ?_
    rintro ee wB ⟨rfl, v', R', rB, eR, kB⟩
    have HBr := Lib.hid (And.intro kB (And.intro rB eR))
    clear kB rB eR
    have HE : Hid (DoPost B w sb mb rb lease lease2 now N a (pl M) (rl R) (.returned (.bool true)) wB) := Lib.hid (DoPost.of H1.out.1 H1.out.2.1 H1.out.2.2.2.2.2 HA.out.1 HA.out.2.1 HBr.out.1 (by unfold nowR; rw [Hkd.out]; exact HBr.out.2.1) (by unfold stepT; rw [Hkd.out]; exact HA.out.2.2.2) (by unfold stepT; rw [Hkd.out]; exact HA.out.2.2.1) (by unfold stepR; rw [Hkd.out]; exact HBr.out.2.2) (by unfold tellT; rw [Hkd.out]; rfl))
    go_wp2
    go_ret
    exact HE.out
  have e1 : (kd == 1) = false := by simpa using h1
  have e2 : (kd == 2) = false := by simpa using h2
  have e3 : (kd == 3) = false := by simpa using h3
  have e4 : (kd == 4) = false := by simpa using h4
  have e5 : (kd == 5) = false := by simpa using h5
  have HE : Hid (DoPost B w sb mb rb lease lease2 now N a (pl M) (rl R) (.returned (.bool true)) w1) := Lib.hid (by
    have c1 : ¬ a.kind = 1 := by rw [Hkd.out]; exact h1
    have c2 : ¬ a.kind = 2 := by rw [Hkd.out]; exact h2
    have c3 : ¬ a.kind = 3 := by rw [Hkd.out]; exact h3
    have c4 : ¬ a.kind = 4 := by rw [Hkd.out]; exact h4
    have c5 : ¬ a.kind = 5 := by rw [Hkd.out]; exact h5
    have s1 : stepT lease a (pl M) = pl M := by unfold stepT; rw [if_neg c1, if_neg c2, if_neg c3, if_neg c4, if_neg c5]
    have s2 : stepR lease2 now a (rl R) = rl R := by unfold stepR; rw [if_neg c1, if_neg c2, if_neg c3, if_neg c4, if_neg c5]
    have s3 : nowR now a = now := if_neg c4
    have s4 : tellT a (pl M) (rl R) = true := if_neg (fun h => h.elim c2 c3)
    unfold DoPost
    rw [s1, s2, s3, s4]
    exact ⟨rfl, HI.out.1.more (Nat.le_succ _), H1.out.2.1.mono H1.out.2.2.2.2.2, _, _, _, _, _, H1.out.1, rfl, rfl⟩)
  go_enter Try.func29, Try.ntmps29
  go_wp2
  go_ret
  exact HE.out

end
end Go.Proofs.Ytijcaefpainhcaa

namespace Go.Proofs.Ytijcaefpainhcaa
open Go.RowKit Go.Maps

section
variable {B : Nat} {w w' : World} {sb mb : Nat} {lease : Int} {E : List TL} {N : Nat}
theorem LS.below (h : LS B w sb mb lease E) (hb : Below w.heap.size w w') : LS B w' sb mb lease E := by
  obtain ⟨F, M, h1, h2, h3⟩ := h
  exact ⟨F, M, h1.below hb, h2, h3⟩
theorem LS.of {F : Nat → Prop} {M' : List LE} (hF : ∀ i, F i → B ≤ i) (hB : B ≤ w.heap.size) (hl : LkAt w' (addF F w w') sb mb lease M') (k : KeptF F w w') : LS B w' sb mb lease (pl M') ∧ Below B w w' :=
  ⟨⟨_, M', hl, rfl, addF_ge hF hB⟩, k.below hF hB⟩
theorem ls_new (x : Int) (w : World) : Calls Try.prog 27 #[.int .i64 x] w fun e w' => ∃ sb mb, e = .returned (.pointer (some ⟨sb, 0, none⟩)) ∧ LS w.heap.size w' sb mb (if x < 1 then 1 else x) [] ∧ Below w.heap.size w w' :=
  (lockNew_any x w).mono fun _ _ ⟨sb, mb, h1, h2, h3⟩ => ⟨sb, mb, h1, ⟨_, [], h2, rfl, fun _ hi => hi.elim False.elim (fun hi => hi.1)⟩, h3⟩
theorem ls_take (h : LS B w sb mb lease E) (hB : B ≤ w.heap.size) (hI : TInv lease N E) (hl1 : 1 ≤ lease) (hN : N ≤ 9000) (k : Int) (hk : (Lit.int .i64 k).wf = true) (r : Rg) (hr : r.lo.size ≤ 200 ∧ r.hi.size ≤ 200) :
    Calls Try.prog 39 #[.pointer (some ⟨sb, 0, none⟩), .int .i64 k, ragg r] w fun e w' => e = .returned (.int .i64 (takeE k r)) ∧ TInv lease (N + 1) (takeT lease k r E) ∧ LS B w' sb mb lease (takeT lease k r E) ∧ Below B w w' := by
  obtain ⟨F, M, h1, rfl, h3⟩ := h
  refine (lockTake_any h1 hI hl1 (by omega) k hk r hr).mono fun e w' ⟨a, b, M', c, d, f⟩ => ?_
  have := LS.of h3 hB c f
  rw [d] at this
  exact ⟨a, b, this⟩
theorem ls_renew (h : LS B w sb mb lease E) (hB : B ≤ w.heap.size) (k : Int) (hk : (Lit.int .i64 k).wf = true) :
    Calls Try.prog 58 #[.pointer (some ⟨sb, 0, none⟩), .int .i64 k] w fun e w' => e = .returned (.bool (getL k E).isSome) ∧ LS B w' sb mb lease (renewT lease k E) ∧ Below B w w' := by
  obtain ⟨F, M, h1, rfl, h3⟩ := h
  refine (lockRenew_any h1 k hk).mono fun e w' ⟨a, M', c, d, f⟩ => ?_
  have := LS.of h3 hB c.add f
  rw [d] at this
  exact ⟨a, this⟩
theorem ls_free (h : LS B w sb mb lease E) (hB : B ≤ w.heap.size) (k : Int) (hk : (Lit.int .i64 k).wf = true) :
    Calls Try.prog 41 #[.pointer (some ⟨sb, 0, none⟩), .int .i64 k] w fun e w' => e = .returned (.bool (getL k E).isSome) ∧ LS B w' sb mb lease (delL k E) ∧ Below B w w' := by
  obtain ⟨F, M, h1, rfl, h3⟩ := h
  refine (lockFree_any h1 k hk).mono fun e w' ⟨a, M', c, d, f⟩ => ?_
  have := LS.of h3 hB c.add f
  rw [d] at this
  exact ⟨a, this⟩
theorem ls_tick (h : LS B w sb mb lease E) (hB : B ≤ w.heap.size) (hI : TInv lease N E) (hl : lease ≤ 9223372036854775807) :
    Calls Try.prog 40 #[.pointer (some ⟨sb, 0, none⟩)] w fun e w' => e = .returned (.tuple #[]) ∧ LS B w' sb mb lease (tickT E) ∧ Below B w w' := by
  obtain ⟨F, M, h1, rfl, h3⟩ := h
  refine (lockTick_any h1 (fun p hp => ⟨(hI.one p hp).left.1, Int.le_trans (hI.one p hp).left.2 hl⟩)).mono fun e w' ⟨a, M', c, d, f⟩ => ?_
  have := LS.of h3 hB c f
  rw [d] at this
  exact ⟨a, this⟩
theorem ls_lose (h : LS B w sb mb lease E) (hB : B ≤ w.heap.size) (hI : TInv lease N E) (hN : N ≤ 9000) (r : Rg) (hr : r.lo.size ≤ 200 ∧ r.hi.size ≤ 200) :
    Calls Try.prog 42 #[.pointer (some ⟨sb, 0, none⟩), ragg r] w fun e w' => e = .returned (.tuple #[]) ∧ TInv lease (N + 1) (loseT r E) ∧ Forms r E (fun _ => false) ∧ LS B w' sb mb lease (loseT r E) ∧ Below B w w' := by
  obtain ⟨F, M, h1, rfl, h3⟩ := h
  refine (lockLose2_any h1 hI (by omega) r hr).mono fun e w' ⟨⟨a, b, M', c, d, f⟩, g⟩ => ?_
  have := LS.of h3 hB c f
  rw [d] at this
  exact ⟨a, b, g, this⟩
theorem ls_blocks (h : LS B w sb mb lease E) (hI : TInv lease N E) (hN : N ≤ 9000) (s : ByteArray) :
    Calls Try.prog 30 #[.pointer (some ⟨sb, 0, none⟩), .string s] w fun e w' => e = .returned (.bool (blocksB s.data.toList E)) ∧ LS B w' sb mb lease E ∧ Below w.heap.size w w' := by
  have h0 := h
  obtain ⟨F, M, h1, rfl, h3⟩ := h
  exact (lockBlocks_any h1 (fun p hp => by have := (hI.one p hp).len; omega) s).mono fun e w' ⟨a, b⟩ => ⟨a, h0.below b, b⟩
theorem ls_holds (h : LS B w sb mb lease E) (hI : TInv lease N E) (hN : N ≤ 9000) (k : Int) (hk : (Lit.int .i64 k).wf = true) (r : Rg) (hr : r.lo.size ≤ 200 ∧ r.hi.size ≤ 200) :
    Calls Try.prog 32 #[.pointer (some ⟨sb, 0, none⟩), .int .i64 k, ragg r] w fun e w' => e = .returned (.bool (holdsB k r E)) ∧ LS B w' sb mb lease E ∧ Below w.heap.size w w' := by
  have h0 := h
  obtain ⟨F, M, h1, rfl, h3⟩ := h
  exact (lockHolds_any h1 hI (by omega) k hk r hr).mono fun e w' ⟨a, b⟩ => ⟨a, h0.below b, b⟩
theorem ls_ranges (h : LS B w sb mb lease E) (hI : TInv lease N E) (hN : N ≤ 9000) (k : Int) (hk : (Lit.int .i64 k).wf = true) :
    Calls Try.prog 37 #[.pointer (some ⟨sb, 0, none⟩), .int .i64 k] w fun e w' => ∃ v, e = .returned v ∧ OwnRgs w' w.heap.size v (rangesT k E) ∧ LS B w' sb mb lease E ∧ Below w.heap.size w w' := by
  have h0 := h
  obtain ⟨F, M, h1, rfl, h3⟩ := h
  exact (lockRanges_any h1 hI (by omega) k hk).mono fun e w' ⟨v, a, b, c⟩ => ⟨v, a, b, h0.below c, c⟩
theorem ls_ids (h : LS B w sb mb lease E) (hI : TInv lease N E) (hN : N ≤ 9000) :
    Calls Try.prog 35 #[.pointer (some ⟨sb, 0, none⟩)] w fun e w' => ∃ v, e = .returned v ∧ w'.ownsRow w.heap.size 3 1 v E.length ((E.map (·.n)).map encZ) ∧ LS B w' sb mb lease E ∧ Below w.heap.size w w' := by
  have h0 := h
  obtain ⟨F, M, h1, rfl, h3⟩ := h
  refine (lockIds_any h1 (by have := hI.len; rw [pl_len] at this; omega)).mono fun e w' ⟨v, a, b, c⟩ => ⟨v, a, ?_, h0.below c, c⟩
  rw [pl_len]
  exact b
end

/-! ### the example -/
def rAC : Rg := ⟨⟨#[97]⟩, ⟨#[99]⟩⟩
theorem ac_full : ¬ emptyR rAC := fun h => h (.inr (by decide))
theorem ac_form : Form [rAC] := ⟨fun r hr => by simp at hr; subst hr; exact ac_full, List.pairwise_singleton _ _⟩
theorem ac_take : takeT 2 5 rAC [] = [⟨5, [rAC], 2⟩] ∧ takeE 5 rAC = 0 := by
  have hc : ¬ ((5 : Int) < 1 ∨ emptyR rAC) := fun h => h.elim (by omega) ac_full
  unfold takeT takeE
  rw [if_neg hc, if_neg hc]
  refine ⟨?_, rfl⟩
  have : leastT (rangesT 5 [] ++ [rAC]) = [rAC] := leastT_form ac_form
  rw [this]
  rfl
theorem ac_inv : TInv 2 1 [⟨5, [rAC], 2⟩] ∧ TInv 2 1 [⟨5, [rAC], 1⟩] := by
  have h : ∀ x : Int, 1 ≤ x ∧ x ≤ 2 → TInv 2 1 [⟨5, [rAC], x⟩] := fun x hx => ⟨List.pairwise_singleton _ _, by simp, fun p hp => by
    simp at hp
    subst hp
    exact ⟨hx, ac_form, by simp, fun r hr => by simp at hr; subst hr; exact ⟨by decide, by decide⟩, by simp⟩⟩
  exact ⟨h 2 (by omega), h 1 (by omega)⟩
theorem ac_blocks (x : Int) : blocksB [98] [⟨5, [rAC], x⟩] = true := by
  unfold blocksB
  rw [List.any_eq_true]
  exact ⟨_, List.mem_singleton.2 rfl, decide_eq_true ⟨rAC, by simp, by decide, .inr (by decide)⟩⟩
theorem ac_ticks : tickT [⟨5, [rAC], 2⟩] = [⟨5, [rAC], 1⟩] ∧ tickT [⟨5, [rAC], 1⟩] = [] ∧ renewT 2 5 [⟨5, [rAC], 1⟩] = [⟨5, [rAC], 2⟩] := ⟨rfl, rfl, rfl⟩
set_option maxRecDepth 100000 in
set_option maxHeartbeats 12800000 in
theorem awake16_any (w : World) : Calls Try.prog 25 #[] w fun e w' => e = .returned (.bool true) ∧ Below w.heap.size w w' := by
  have hwf : (Lit.int .i64 5).wf = true := wf_of (by omega)
  have T1 := Lib.hid ac_take
  have T2 := Lib.hid ac_ticks
  have T3 := Lib.hid ac_inv
  go_enter Try.func25, Try.ntmps25
  go_wp2_with fail
  refine (ls_new 2 w).mono ?_
  rintro e w1 ⟨sb, mb, rfl, h1, b1⟩
  have H1 := Lib.hid (And.intro h1 b1)
  clear h1 b1
  go_wp2_with fail
  refine (ls_take H1.out.1 H1.out.2.size (TInv.nil _ 0) (by decide) (by omega) 5 hwf rAC ⟨by decide, by decide⟩).mono ?_
  rw [show (if (2 : Int) < 1 then (1 : Int) else 2) = 2 from rfl, T1.out.1, T1.out.2]
  rintro e w2 ⟨rfl, -, h2, b2⟩
  have H2 := Lib.hid (And.intro h2 (H1.out.2.trans b2))
  clear h2 b2
  go_wp2_with fail
  refine (ls_tick H2.out.1 H2.out.2.size T3.out.1 (by decide)).mono ?_
  rw [T2.out.1]
  rintro e w3 ⟨rfl, h3, b3⟩
  have H3 := Lib.hid (And.intro h3 (H2.out.2.trans b3))
  clear h3 b3
  go_wp2_with fail
  refine (ls_blocks H3.out.1 T3.out.2 (by omega) ⟨#[98]⟩).mono ?_
  rw [show blocksB (⟨#[98]⟩ : ByteArray).data.toList [⟨5, [rAC], 1⟩] = true from ac_blocks 1]
  rintro e w4 ⟨rfl, h4, b4⟩
  have H4 := Lib.hid (And.intro h4 (H3.out.2.trans (b4.mono H3.out.2.size)))
  clear h4 b4
  go_wp2_with fail
  refine (ls_renew H4.out.1 H4.out.2.size 5 hwf).mono ?_
  rw [T2.out.2.2]
  rintro e w5 ⟨rfl, h5, b5⟩
  have H5 := Lib.hid (And.intro h5 (H4.out.2.trans b5))
  clear h5 b5
  go_wp2_with fail
  refine (ls_tick H5.out.1 H5.out.2.size T3.out.1 (by decide)).mono ?_
  rw [T2.out.1]
  rintro e w6 ⟨rfl, h6, b6⟩
  have H6 := Lib.hid (And.intro h6 (H5.out.2.trans b6))
  clear h6 b6
  go_wp2_with fail
  refine (ls_blocks H6.out.1 T3.out.2 (by omega) ⟨#[98]⟩).mono ?_
  rw [show blocksB (⟨#[98]⟩ : ByteArray).data.toList [⟨5, [rAC], 1⟩] = true from ac_blocks 1]
  rintro e w7 ⟨rfl, h7, b7⟩
  have H7 := Lib.hid (And.intro h7 (H6.out.2.trans (b7.mono H6.out.2.size)))
  clear h7 b7
  go_wp2_with fail
  refine (ls_tick H7.out.1 H7.out.2.size T3.out.2 (by decide)).mono ?_
  rw [T2.out.2.1]
  rintro e w8 ⟨rfl, h8, b8⟩
  have H8 := Lib.hid (And.intro h8 (H7.out.2.trans b8))
  clear h8 b8
  go_wp2_with fail
  refine (ls_blocks H8.out.1 (TInv.nil _ 0) (by omega) ⟨#[98]⟩).mono ?_
  rintro e w9 ⟨rfl, -, b9⟩
  have HE := Lib.hid (H8.out.2.trans (b9.mono H8.out.2.size))
  clear b9
  go_wp2
  go_ret
  exact ⟨rfl, HE.out⟩
end Go.Proofs.Ytijcaefpainhcaa

namespace Go.Proofs.Ytijcaefpainhcaa
open Go.RowKit Go.Maps

theorem do_fresh {B : Nat} {wr wx w5 : World} {sb mb rb : Nat} {v : Value} {lease lease2 : Int} {E : List TL} {N : Nat} (hl : LS B wr sb mb lease E) (hB : B ≤ wr.heap.size) (b : Below wr.heap.size wr wx) (hr : RfAt w5 (addF (fun _ => False) wx w5) rb v lease2 0 []) (b5 : Below wx.heap.size wx w5)
    (hI : TInv lease N E) (hle : 1 ≤ lease ∧ lease ≤ 9223372036854775807) (hN : N ≤ 9000) (a : LA) (ha : LaOk a) (hs : a.r.lo.size ≤ 200 ∧ a.r.hi.size ≤ 200) :
    Calls Try.prog 29 #[.pointer (some ⟨sb, 0, none⟩), .pointer (some ⟨rb, 0, none⟩), .agg #[.int .i64 a.kind, .int .i64 a.id, .string a.r.lo, .string a.r.hi]] w5 fun e w' =>
      ∃ d, e = .returned (.bool d) ∧ TInv lease (N + 1) (stepT lease a E) ∧ LS B w' sb mb lease (stepT lease a E) ∧ Below B wr w' := by
  obtain ⟨F, M, h1, rfl, h3⟩ := hl
  have bw : Below wr.heap.size wr w5 := b.trans (b5.mono b.size)
  have hp : PS B w5 F (addF (fun _ => False) wx w5) sb mb rb v lease lease2 0 M [] := ⟨h1.below bw, hr, fun i hi hg => hg.elim id (fun hg => by have := h1.lt i hi; have := b.size; omega), h3, fun i hi => hi.elim False.elim (fun hi => by have := b.size; omega)⟩
  refine (do_any hp (Nat.le_trans hB bw.size) hI hle hN ⟨List.Pairwise.nil, by simp, by simp, by simp, by omega⟩ a ha hs).mono ?_
  rintro e w' ⟨he, hT, hb, F', G', v', M', R', hp', e1, -⟩
  exact ⟨_, he, hT, ⟨F', M', hp'.lk, e1, hp'.fB⟩, (bw.mono hB).trans hb⟩
end Go.Proofs.Ytijcaefpainhcaa

namespace Go.Proofs.Ytijcaefpainhcaa
open Go.RowKit Go.Maps

theorem blocks_iff {s : List UInt8} {E : List TL} : blocksB s E = true ↔ ∃ p ∈ E, inS p.L s := by
  unfold blocksB
  rw [List.any_eq_true]
  constructor
  · rintro ⟨p, hp, h⟩
    exact ⟨p, hp, of_decide_eq_true h⟩
  · rintro ⟨p, hp, h⟩
    exact ⟨p, hp, decide_eq_true h⟩
theorem blocks_lose {E : List TL} {r : Rg} {s : List UInt8} (hF : Forms r E (fun _ => false)) : blocksB s (loseT r E) = (blocksB s E && !decide (hasR r s)) := by
  rw [Bool.eq_iff_iff, Bool.and_eq_true, blocks_iff, blocks_iff, Bool.not_eq_true', decide_eq_false_iff_not]
  constructor
  · rintro ⟨q, hq, hs⟩
    obtain ⟨p, hp, hq⟩ := List.mem_filterMap.1 hq
    obtain ⟨m, hm, -⟩ := hF p hp rfl
    have e : minusT p.L r = m := theForm_eq hm
    unfold lose1 at hq
    rw [e] at hq
    split at hq
    · cases hq
    · cases hq
      have := (hm.2 s).1 hs
      exact ⟨⟨p, hp, this.1⟩, this.2⟩
  · rintro ⟨⟨p, hp, hs⟩, hr⟩
    obtain ⟨m, hm, -⟩ := hF p hp rfl
    have e : minusT p.L r = m := theForm_eq hm
    have hin : inS m s := (hm.2 s).2 ⟨hs, hr⟩
    have hne : m ≠ [] := fun e0 => by subst e0; exact in_nil _ hin
    refine ⟨⟨p.n, m, p.left⟩, List.mem_filterMap.2 ⟨p, hp, ?_⟩, hin⟩
    unfold lose1
    rw [e, if_neg hne]
theorem lt_own {w : World} {g : Nat} {n c : Nat} {l : List Rg} {B : Nat} (h : OwnRgs w B (.slice (some ⟨g, 0, none⟩) n c) l) : B ≤ g := (World.ownsRow.lt h g rfl).1
set_option maxRecDepth 100000 in
theorem LkAt.wf {F : Nat → Prop} {w : World} {sb mb : Nat} {lease : Int} {M : List LE} (h : LkAt w F sb mb lease M) {e : LE} (he : e ∈ M) : (Lit.int .i64 e.p.n).wf = true := by
  obtain ⟨es, clock, hb, Ft, hs, hD⟩ := h.own
  unfold lmap at hD
  injection hD with hD
  have hm : ((.int .i64 e.p.n, .held e.v) : Lit × DataW Value) ∈ M.map fun e => ((.int .i64 e.p.n, .held e.v) : Lit × DataW Value) := List.mem_map.2 ⟨e, he, rfl⟩
  rw [hD] at hm
  obtain ⟨x, hx, hxe⟩ := List.mem_map.1 (mem_sorted.1 hm)
  obtain ⟨y, hy⟩ := Ft.reads x hx
  have hkey := WideElems.rd_key hy
  rw [WideElems.rg_of hy] at hxe
  obtain ⟨z, -, hz, hw⟩ := Maps.keyOf_int_inv Try.underlying3 hkey
  rw [hxe] at hz
  simp only at hz
  injection hz with _ hz
  rw [hz]
  exact hw
theorem LS.wf {B : Nat} {w : World} {sb mb : Nat} {lease : Int} {E : List TL} (h : LS B w sb mb lease E) {p : TL} (hp : p ∈ E) : (Lit.int .i64 p.n).wf = true := by
  obtain ⟨F, M, h1, rfl, h3⟩ := h
  obtain ⟨e, he, rfl⟩ := List.mem_map.1 hp
  exact h1.wf he
/-- the loop over the acts, the document's table made anew each time -/
structure LLoop (w w0 wr : World) (B : Nat) (sb mb : Nat) (lease : Int) (k : Nat) (E : List TL) : Prop where
  st : LS B wr sb mb lease E
  inv : TInv lease k E
  below : Below B w0 wr
  low : Below w.heap.size w wr
set_option maxRecDepth 100000 in
set_option maxHeartbeats 12800000 in
theorem loses_walk (x : Int) (hx : x ≤ 9223372036854775807) (A : Option Addr) (n c : Nat) (l : List LA) (r : Rg) (s : ByteArray) (w : World) (h : HasLas w w.heap.size A n l) (hn : n ≤ maxLen) (hs : ∀ u ∈ l, LaOk u) (hr : r.lo.size ≤ maxLen ∧ r.hi.size ≤ maxLen) (hss : s.size ≤ maxLen) :
    Calls Try.prog 9 #[.int .i64 x, .slice A n c, ragg r, .string s] w fun e w' => e = .returned (.bool true) ∧ Below w.heap.size w w' := by
  obtain ⟨wa, hwa⟩ : ∃ wa, w.alloc (.cells #[.string r.lo, .string r.hi] 23) = wa := ⟨_, rfl⟩
  have ba : Below w.heap.size w wa := hwa ▸ below_box _
  have xa : Box wa w.heap.size 23 #[.string r.lo, .string r.hi] := hwa ▸ Box.made _ _ _
  have Ha := Lib.hid (And.intro ba xa)
  have H := Lib.hid h
  have Hs := Lib.hid (And.intro hs (And.intro hr hss))
  have hl := h.1
  have HX : Hid (∀ wx, Below wa.heap.size wa wx → (wx.cell? ⟨w.heap.size, 0, none⟩ = some (.string r.lo) ∧ wx.cell? ⟨w.heap.size, 1, none⟩ = some (.string r.hi)) ∧ Below w.heap.size w wx) := Lib.hid fun wx hb => by
    have y := Ha.out.2.below hb Ha.out.2.lt
    exact ⟨⟨y.cell 0, y.cell 1⟩, Ha.out.1.trans (hb.mono Ha.out.1.size)⟩
  have HLi := Lib.hid (fun wx (hb : Below w.heap.size w wx) => light16_any A n c w.heap.size l wx (h.belowOf hb (Nat.le_refl _)) hb.size hn hs)
  have HLr : Hid (∀ wx : World, Calls Try.prog 11 #[.slice (some ⟨wx.heap.size, 0, none⟩) 1 1, .int .i64 1] (wx.alloc (.cells #[.string r.lo, .string r.hi] 23)) (LightPost [r] 1 (wx.alloc (.cells #[.string r.lo, .string r.hi] 23)))) := Lib.hid (fun wx => lightR_any (some ⟨wx.heap.size, 0, none⟩) 1 1 (wx.heap.size + 1) 1 [r] _ (one_lit wx r) (by simp [maxLen]) (fun u hu => by simp at hu; subst hu; exact hr))
  clear h hs hr hss ba xa
  unfold ragg
  go_enter Try.func9, Try.ntmps9
  go_wp2_with fail
  refine (awake16_any _).mono ?_
  rintro e w1 ⟨rfl, b1⟩
  have B1 := Lib.hid b1
  clear b1
  go_wp2_with fail
  refine (HLi.out w1 (HX.out w1 B1.out).2).mono ?_
  rintro e w2 ⟨t, rfl, ht, b2⟩
  have B2 := Lib.hid (B1.out.trans (b2.mono B1.out.size))
  obtain ⟨⟨p0, p1⟩, -⟩ := HX.out w2 B2.out
  have Ht := Lib.hid ht
  clear ht b2
  cases t with
  | false =>
    go_wp2
    go_ret
    exact ⟨rfl, (HX.out w2 B2.out).2⟩
  | true =>
    have HtA := Lib.hid (Ht.out rfl)
    clear Ht
    go_wp2_with fail
    refine (HLr.out w2).mono ?_
    rintro e w3 ⟨t2, rfl, ht2, rfl⟩
    have B3 := Lib.hid (B2.out.alloc B2.out.size (.cells #[.string r.lo, .string r.hi] 23))
    have Ht2 := Lib.hid ht2
    clear ht2
    obtain ⟨w3, hw3⟩ : ∃ w3, w2.alloc (.cells #[.string r.lo, .string r.hi] 23) = w3 := ⟨_, rfl⟩
    rw [hw3] at B3 ⊢
    cases t2 with
    | false =>
      go_wp2
      go_ret
      exact ⟨rfl, (HX.out w3 B3.out).2⟩
    | true =>
      have HtB := Lib.hid (Ht2.out rfl)
      clear Ht2
      by_cases hsz : 200 < s.size
      · have hsz2 : decide ((200 : Int) < (s.size : Int)) = true := decide_eq_true (by omega)
        go_wp2
        go_ret
        exact ⟨rfl, (HX.out w3 B3.out).2⟩
      · have hsz2 : decide ((200 : Int) < (s.size : Int)) = false := decide_eq_false (by omega)
        have HA := Lib.hid (And.intro HtA.out (HtB.out.2 r (by simp)))
        clear HtA HtB
        go_wp2_with fail
        refine (ls_new x w3).mono ?_
        obtain ⟨y, hy⟩ : ∃ y, (if x < 1 then 1 else x) = y := ⟨_, rfl⟩
        rw [hy]
        have HY : Hid (1 ≤ y ∧ y ≤ 9223372036854775807) := Lib.hid (by rw [← hy]; split <;> omega)
        rintro e w4 ⟨sb, mb, rfl, h4, b4⟩
        have H4 : Hid (LLoop w w3 w4 w3.heap.size sb mb y 0 []) := Lib.hid ⟨h4, TInv.nil _ _, b4, ((HX.out w3 B3.out).2).trans (b4.mono ((HX.out w3 B3.out).2).size)⟩
        clear h4 b4 hy
        go_wp2
        go_loopw [10] (fun iv wr => ∃ k : Nat, k ≤ n ∧ iv = .int .i64 (k : Int) ∧ ∃ E, Hid (LLoop w w3 wr w3.heap.size sb mb y k E)) (fun iv _ => n - (intOf iv).toNat)
        case atStart => exact ⟨0, by omega, rfl, _, H4⟩
        case round =>
          obtain ⟨k, hk, rfl, E, HL⟩ := hrel
          by_cases hlt : k < n
          · obtain ⟨a, u, rfl, hab, hy, c0, c1, c2, c3⟩ := (H.out.belowOf HL.out.low (Nat.le_refl _)).at_ hlt
            have hu := List.mem_of_getElem? hy
            have Hu := Lib.hid (And.intro (Hs.out.1 u hu) (HA.out.1.2 u hu))
            have hk0 : (0 : Int) ≤ (k : Int) := by omega
            have hk1 : (k : Int) < (n : Int) := by omega
            have hkN : k ≤ 9000 := by have := HA.out.1.1; omega
            have hB : w3.heap.size ≤ wr.heap.size := HL.out.below.size
            have HC : Hid (∀ wx, Below w3.heap.size wr wx → wx.cell? (a.add (k * 4)) = some (.int .i64 u.kind) ∧ wx.cell? ⟨(a.add (k * 4)).block, (a.add (k * 4)).off + 1, none⟩ = some (.int .i64 u.id) ∧ wx.cell? ⟨(a.add (k * 4)).block, (a.add (k * 4)).off + 2, none⟩ = some (.string u.r.lo) ∧ wx.cell? ⟨(a.add (k * 4)).block, (a.add (k * 4)).off + 3, none⟩ = some (.string u.r.hi)) := Lib.hid fun wx hx => by
              have hb : (a.add (k * 4)).block < w3.heap.size := by
                have := (HX.out w3 B3.out).2.size
                rw [addr_block]
                omega
              exact ⟨(hx.cell (p := a.add (k * 4)) hb).trans c0, (hx.cell (p := ⟨(a.add (k * 4)).block, (a.add (k * 4)).off + 1, none⟩) hb).trans c1, (hx.cell (p := ⟨(a.add (k * 4)).block, (a.add (k * 4)).off + 2, none⟩) hb).trans c2, (hx.cell (p := ⟨(a.add (k * 4)).block, (a.add (k * 4)).off + 3, none⟩) hb).trans c3⟩
            clear hu hy hab
            go_wp2
            go_region_held3 (fun wx => wx.cell? (a.add (k * 4)) = some (.int .i64 u.kind) ∧ wx.cell? ⟨(a.add (k * 4)).block, (a.add (k * 4)).off + 1, none⟩ = some (.int .i64 u.id) ∧ wx.cell? ⟨(a.add (k * 4)).block, (a.add (k * 4)).off + 2, none⟩ = some (.string u.r.lo) ∧ wx.cell? ⟨(a.add (k * 4)).block, (a.add (k * 4)).off + 3, none⟩ = some (.string u.r.hi))
              (first | exact ⟨c0, c1, c2, c3⟩ | exact S6.out | exact S5.out | exact HC.out _ ((Below.refl _ wr).drew.mono hB))
              (first
                | (go_at_call 28; refine (refNew16_any 1 _).mono ?_; rintro e5 w5 ⟨rb, rfl, h5, b5⟩; have N5 := Lib.hid (And.intro h5 b5); have S5 := Lib.hid (HC.out _ (((Below.refl _ wr).drew.trans b5).mono hB)))
                | (go_at_call 29; refine (do_fresh HL.out.st hB (Below.refl _ wr).drew N5.out.1 N5.out.2 HL.out.inv HY.out hkN u Hu.out.1 Hu.out.2).mono ?_; rintro e6 w6 ⟨d6, rfl, t6, l6, b6⟩; have N6 := Lib.hid (And.intro t6 (And.intro l6 b6)); have S6 := Lib.hid (HC.out _ b6)))
            have HE : Hid (LLoop w w3 w6 w3.heap.size sb mb y (k + 1) (stepT y u E)) := Lib.hid ⟨N6.out.2.1, N6.out.1, HL.out.below.trans N6.out.2.2, HL.out.low.trans (N6.out.2.2.mono (HX.out w3 B3.out).2.size)⟩
            clear S5 S6 N5 N6 h5 b5 t6 l6 b6 c0 c1 c2 c3
            go_wp2
            go_roundw
            case rel => exact ⟨k + 1, by omega, by go_num, _, HE⟩
            case measure => simp [intOf]; omega
          · obtain rfl : k = n := by omega
            have hkN : k ≤ 9000 := by have := HA.out.1.1; omega
            have hB : w3.heap.size ≤ wr.heap.size := HL.out.below.size
            obtain ⟨was, hwas⟩ : ∃ b, blocksB s.data.toList E = b := ⟨_, rfl⟩
            have Hwas := Lib.hid hwas
            clear H4
            go_wp2_with fail
            refine (ls_blocks HL.out.st HL.out.inv hkN s).mono ?_
            rw [hwas]
            rintro e5 w5 ⟨rfl, l5, b5⟩
            have B5 := Lib.hid (HL.out.below.trans (b5.mono hB))
            have L5 := Lib.hid l5
            obtain ⟨⟨p0, p1⟩, -⟩ := HX.out w5 (B3.out.trans (B5.out.mono B3.out.size))
            clear l5 b5 hwas
            go_wp2_with fail
            refine (ls_lose L5.out B5.out.size HL.out.inv hkN r HA.out.2).mono ?_
            rintro e6 w6 ⟨rfl, t6, f6, l6, b6⟩
            have B6 := Lib.hid (B5.out.trans b6)
            have L6 := Lib.hid (And.intro l6 (And.intro t6 f6))
            clear l6 t6 f6 b6
            have hkN1 : k + 1 ≤ 9000 := by have := HA.out.1.1; omega
            go_wp2_with fail
            refine (ls_ids L6.out.1 L6.out.2.1 hkN1).mono ?_
            rintro e7 w7 ⟨u, rfl, ou, l7, b7⟩
            obtain ⟨m, hm⟩ : ∃ m, (loseT r E).length = m := ⟨_, rfl⟩
            have Hm := Lib.hid hm
            have hm9 : m ≤ 9001 := by have := L6.out.2.1.len; omega
            rw [hm] at ou
            obtain ⟨Au, cu, rfl, -, -, -⟩ := own_sliceN ou
            have L7 : Hid (LS w3.heap.size w7 sb mb y (loseT r E) ∧ w7.ownsRow w6.heap.size 3 1 (.slice Au m cu) m (((loseT r E).map (·.n)).map encZ) ∧ Below w6.heap.size w6 w7) := Lib.hid ⟨l7, ou, b7⟩
            clear ou l7 b7 hm
            go_wp2
            go_loopw [13] (fun iv wr => ∃ j : Nat, j ≤ m ∧ iv = .int .i64 (j : Int) ∧ Hid (LS w3.heap.size wr sb mb y (loseT r E) ∧ wr.ownsRow w6.heap.size 3 1 (.slice Au m cu) m (((loseT r E).map (·.n)).map encZ) ∧ Below w6.heap.size w6 wr)) (fun iv _ => m - (intOf iv).toNat)
            case atStart => exact ⟨0, by omega, rfl, L7⟩
            case round =>
              obtain ⟨j, hj, rfl, HR⟩ := hrel
              have hBr : w3.heap.size ≤ wr.heap.size := Nat.le_trans B6.out.size HR.out.2.2.size
              by_cases hltj : j < m
              · have Hlj := Lib.hid hltj
                have hb0 := HR.out.2.1
                obtain ⟨au, rfl, -, hc⟩ := (Has.of_ownN hb0).all (by omega)
                obtain ⟨q, hq⟩ : ∃ q, (loseT r E)[j]? = some q := ⟨_, List.getElem?_eq_getElem (by have := Hm.out; omega)⟩
                have hqm := List.mem_of_getElem? hq
                have c0 : wr.cell? (au.add j) = some (.int .i64 q.n) := hc j _ (by rw [List.getElem?_map, List.getElem?_map, hq]; rfl)
                have hj0 : (0 : Int) ≤ (j : Int) := by omega
                have hj1 : (j : Int) < (m : Int) := by omega
                have hwf := HR.out.1.wf hqm
                have hrng : rangesT q.n (loseT r E) = q.L := by
                  unfold rangesT
                  rw [getL_mem L6.out.2.1.rise hqm]
                have hne := (L6.out.2.1.one q hqm).some_
                obtain ⟨qL, hqL⟩ : ∃ L, q.L = L := ⟨_, rfl⟩
                rw [hqL] at hrng hne
                have Hq := Lib.hid (And.intro hrng hne)
                clear hc hb0 hq hqm hrng hne hqL
                go_wp2_with fail
                refine (ls_ranges HR.out.1 L6.out.2.1 hkN1 q.n hwf).mono ?_
                rw [Hq.out.1]
                rintro e8 w8 ⟨v8, rfl, o8, l8, b8⟩
                have hpos : 0 < qL.length := List.length_pos_iff.2 Hq.out.2
                obtain ⟨g, c8, rfl, hg, -⟩ := own_some o8 hpos
                obtain ⟨q8, hq8⟩ : ∃ q8, qL.length = q8 := ⟨_, rfl⟩
                have ow : w8.ownsRow wr.heap.size 23 2 (.slice (some ⟨g, 0, none⟩) q8 c8) q8 (rgCells qL) := by
                  have := o8
                  unfold OwnRgs at this
                  rwa [hq8] at this
                rw [hq8] at hpos ⊢
                have hz : ((q8 : Int) == 0) = false := by simp; omega
                have hz1 : (0 : Int) < (q8 : Int) := by omega
                obtain ⟨yr, hyr⟩ : ∃ yr, qL[0]? = some yr := ⟨_, List.getElem?_eq_getElem (by omega)⟩
                have d0 : w8.cell? ⟨g, 0, none⟩ = some (.string yr.lo) := (World.ownsRow.cellAt ow 0 (by omega)).trans (rgCells_at qL 0 yr hyr).1
                have d1 : w8.cell? ⟨g, 1, none⟩ = some (.string yr.hi) := (World.ownsRow.cellAt ow 1 (by omega)).trans (rgCells_at qL 0 yr hyr).2
                have f0 := World.ownsRow.frozenAt ow 0
                have f1 := World.ownsRow.frozenAt ow 1
                obtain ⟨w9, hw9⟩ : ∃ w9, (w8.setCell ⟨g, 0, none⟩ (.string ⟨#[33]⟩)).setCell ⟨g, 1, none⟩ (.string ⟨#[]⟩) = w9 := ⟨_, rfl⟩
                have b9 : Below wr.heap.size wr w9 := hw9 ▸ (b8.setCell hg _).setCell hg _
                have HE : Hid (LS w3.heap.size w9 sb mb y (loseT r E) ∧ w9.ownsRow w6.heap.size 3 1 (.slice (some au) m cu) m (((loseT r E).map (·.n)).map encZ) ∧ Below w6.heap.size w6 w9) := Lib.hid ⟨HR.out.1.below b9, own_belowN HR.out.2.1 b9, HR.out.2.2.trans (b9.mono HR.out.2.2.size)⟩
                clear ow o8 l8 b8 hq8 hyr b9
                go_wp2
                go_roundw
                case rel => exact ⟨j + 1, by have := Hlj.out; omega, by go_num, HE⟩
                case measure => simp [intOf]; have := Hlj.out; omega
              · obtain rfl : j = m := by omega
                have hbl := blocks_lose (s := s.data.toList) L6.out.2.2
                rw [Hwas.out] at hbl
                obtain ⟨D, hD⟩ : ∃ D, decide (hasR r s.data.toList) = D := ⟨_, rfl⟩
                rw [hD] at hbl
                have Hbl := Lib.hid (And.intro hbl hD)
                clear hbl hD
                go_wp2_with fail
                refine (ls_blocks HR.out.1 L6.out.2.1 hkN1 s).mono ?_
                rw [Hbl.out.1]
                rintro e8 w8 ⟨rfl, l8, b8⟩
                have B8 := Lib.hid (B6.out.trans (HR.out.2.2.mono B6.out.size) |>.trans (b8.mono hBr))
                obtain ⟨⟨p0, p1⟩, -⟩ := HX.out w8 (B3.out.trans (B8.out.mono B3.out.size))
                have Hh := Lib.hid (refHas_any r s w8)
                rw [Hbl.out.2] at Hh
                unfold ragg at Hh
                clear l8 b8
                cases was with
                | false =>
                  go_wp2
                  go_ret
                  exact ⟨rfl, (HX.out w8 (B3.out.trans (B8.out.mono B3.out.size))).2⟩
                | true =>
                  go_wp2_with fail
                  refine Hh.out.mono ?_
                  rintro e9 w9 ⟨rfl, b9⟩
                  have HE := Lib.hid ((HX.out w8 (B3.out.trans (B8.out.mono B3.out.size))).2.trans (b9.mono (HX.out w8 (B3.out.trans (B8.out.mono B3.out.size))).2.size))
                  clear b9
                  cases D with
                  | true =>
                    go_wp2
                    go_ret
                    exact ⟨rfl, HE.out⟩
                  | false =>
                    go_wp2
                    go_ret
                    exact ⟨rfl, HE.out⟩

namespace lawLockLoses
open Go.ChangeShapes Go.WideShapes Go.ChangeAt

theorem own : ownKnob Try.prog.godebug = none := by kernel_rfl
theorem kids : Kids Try.prog (· < Try.prog.types.size) := kids_rows (by kernel_rfl) (by kernel_rfl)
theorem full : ∀ t e, t < Try.prog.types.size → Try.prog.underlying t = some (.slice e) → 0 < Try.prog.cellsOf e := slices_full_of Try.prog (by kernel_rfl)

set_option maxRecDepth 100000 in
theorem lifted (os : Os) (started : os.Started) (H : Type) (enc : TypeId × Value → H) :
    ReturnsInHanded {} Try.checked os 9 .any (Rows.lockLosesSpec.pre6 enc Try.prog Try.f9 Rows.lockLosesRow.domain false) (Rows.lockLosesSpec.post enc Try.prog Try.f9 false true false false) := by
  refine returnsInHanded_of_change (C := Try.checked) own started (by kernel_rfl) Try.func9
    (ChangeSpec.witness6 (enc := enc) (C := Try.checked) false ⟨#[], #[.int .i64 0, .slice none 0 0, .agg #[.string ⟨#[]⟩, .string ⟨#[]⟩], .string ⟨#[]⟩], []⟩ 8 (by kernel_rfl) (by kernel_rfl) (by kernel_rfl) (by kernel_rfl)) ?_
  intro W base args ds gs before hval0 hW _ _
  have hval : ∀ (j : Nat) t v, Try.f9.params[j]? = some t → args[j]? = some v → Value.okWide Try.prog W .any base t v := hval0
  have hW' := hW
  obtain ⟨p, q, hA0, hV, rfl, _, _⟩ := hW
  obtain ⟨rfl, rfl⟩ := trodVars_none hV
  have hA : DataW.TrodAll enc Try.prog W 0 (fun _ => true) true Try.f9.params.toList args.toList ds p := hA0
  rw [Try.params9] at hA hval
  obtain ⟨v0, vs0, d0, ds0, p0, q0, hargs, rfl, rfl, h0, r0⟩ := trodAll_cons hA
  obtain ⟨v1, vs1, d1, ds1, p1, q1, rfl, rfl, rfl, h1, r1⟩ := trodAll_cons r0
  obtain ⟨v2, vs2, d2, ds2, p2, q2, rfl, rfl, rfl, h2, r2⟩ := trodAll_cons r1
  obtain ⟨v3, vs3, d3, ds3, p3, q3, rfl, rfl, rfl, h3, r3⟩ := trodAll_cons r2
  obtain ⟨rfl, rfl, rfl⟩ := trodAll_nil r3
  obtain rfl : args = #[v0, v1, v2, v3] := by cases args; simp_all
  have hlt := hW'.lt
  obtain ⟨k0, rfl, _, _, wf0⟩ := open_int Try.underlying3 (hval 0 3 v0 rfl rfl) h0
  have bd0 := bounds_i64 wf0
  obtain ⟨A1, n1, c1, l1, rfl, hn1, hnc1, hb1, hs1⟩ := open_las Try.underlying39 Try.underlying47 (by kernel_rfl) ⟨rfl, rfl, rfl⟩ ⟨by kernel_rfl, by kernel_rfl, by kernel_rfl⟩ ⟨by kernel_rfl, by kernel_rfl, Try.underlying23⟩ ⟨rfl, rfl⟩ ⟨by kernel_rfl, by kernel_rfl⟩ ⟨by kernel_rfl, by kernel_rfl⟩ (hval 1 39 v1 rfl rfl) h1 (fun x hx => hlt x (by simp [hx]))
  obtain ⟨x2, y2, rfl, wx2, wy2⟩ := open_rg Try.underlying23 (by kernel_rfl) ⟨rfl, rfl⟩ ⟨by kernel_rfl, by kernel_rfl⟩ ⟨by kernel_rfl, by kernel_rfl⟩ (hval 2 23 v2 rfl rfl) h2
  obtain ⟨s3, rfl, _, _, ws3⟩ := Go.ChangeMaps.open_string Try.underlying9 (hval 3 9 v3 rfl rfl) h3
  refine (loses_walk k0 bd0.2 A1 n1 c1 l1 ⟨x2, y2⟩ s3 W hb1 hn1 hs1 ⟨wx2, wy2⟩ ws3).mono fun e W' ⟨he, hbel⟩ => ?_
  subst he
  exact ⟨_, rfl, law_post kids full (of_decide_eq_true (by kernel_rfl)) Try.underlying4 rfl rfl rfl hW' hbel⟩

theorem proved : Rows.LockLosesSaid :=
  OpenClaim.holds_of_wide 9 Try.f9 rfl rfl rfl rfl rfl rfl rfl ⟨rfl, rfl, rfl, rfl, rfl⟩ rfl rfl rfl rfl rfl (by kernel_rfl) Try.func9 (by kernel_rfl)
    (of_decide_eq_true (by kernel_rfl)) (by unfold Func.isWrapper; first | (rw [if_pos (by decide +kernel)]; kernel_rfl) | (rw [if_neg (by decide +kernel)]; exact ⟨rfl, rfl⟩))
    (fun os started H enc _ => lifted os started H enc)
end lawLockLoses

end Go.Proofs.Ytijcaefpainhcaa

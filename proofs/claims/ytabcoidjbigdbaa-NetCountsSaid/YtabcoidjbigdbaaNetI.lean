/- How often each number stands among the letters under way. No condition. -/
import Derived.Test.YtabcoidjbigdbaaNetH
import Derived.Test.YtabcoidjbigdbaaLetY
namespace Go.Proofs.Ytabcoidjbigdbaa
open Go.RowKit

def cN (a : Nat) (E : List NEn) : Int := ((E.filter fun p => decide (p.L.a = (a : Int))).length : Int)
def cntL (E : List NEn) : List Value := (List.range 101).map fun a => .int .i64 (cN a E)
theorem cntL_at {E : List NEn} {a : Nat} (ha : a < 101) : (cntL E)[a]? = some (.int .i64 (cN a E)) := by simp [cntL, ha]
theorem cN_add (a : Nat) (E : List NEn) (en : NEn) : cN a (E ++ [en]) = cN a E + if en.L.a = (a : Int) then 1 else 0 := by
  unfold cN
  rw [List.filter_append, List.length_append]
  by_cases h : en.L.a = (a : Int) <;> simp [h]
theorem cntL_set {E E' : List NEn} {a : Nat} {v : Int} (h1 : cN a E' = v) (h2 : ∀ b, b ≠ a → cN b E' = cN b E) : (cntL E).set a (.int .i64 v) = cntL E' := by
  refine List.ext_getElem? fun b => ?_
  rw [List.getElem?_set]
  by_cases hb : b < 101
  · by_cases e : a = b
    · subst e
      have hl : a < (cntL E).length := by simpa [cntL] using hb
      rw [if_pos rfl, if_pos hl, cntL_at hb, h1]
    · rw [if_neg e, cntL_at hb, cntL_at hb, h2 b (fun h => e h.symm)]
  · have h3 : (cntL E')[b]? = none := by simp [cntL]; omega
    have h4 : (cntL E)[b]? = none := by simp [cntL]; omega
    have hl : ¬ b < (cntL E).length := by simpa [cntL] using hb
    rw [h3]
    split
    · next e => subst e; rw [if_neg hl]
    · exact h4
theorem delN_none {k : Int} {E : List NEn} (h : ∀ p ∈ E, p.n ≠ k) : delN k E = E := List.filter_eq_self.2 fun p hp => by simp [h p hp]
/-- taken out, one letter is gone -/
theorem cN_del {k : Int} : ∀ {E : List NEn} {e : NEn}, (E.Pairwise fun p q => p.n < q.n) → getN k E = some e → ∀ b : Nat, cN b (delN k E) = cN b E - if e.L.a = (b : Int) then 1 else 0
  | [], e, _, h, b => by simp [getN] at h
  | y :: l, e, hr, h, b => by
    obtain ⟨h1, h2⟩ := List.pairwise_cons.1 hr
    by_cases hy : y.n = k
    · have e1 : e = y := by simp [getN, hy] at h; exact h.symm
      subst e1
      have hd : delN k (e :: l) = l := by
        unfold delN
        rw [List.filter_cons, if_neg (by simp [hy])]
        exact delN_none fun p hp e => by have := h1 p hp; omega
      rw [hd]
      unfold cN
      rw [List.filter_cons]
      by_cases ha : e.L.a = (b : Int) <;> simp [ha]
    · have hg : getN k l = some e := by simpa [getN, List.find?_cons, hy] using h
      have ih := cN_del h2 hg b
      have hd : delN k (y :: l) = y :: delN k l := by
        unfold delN
        rw [List.filter_cons, if_pos (by simp [hy])]
      rw [hd]
      unfold cN at ih ⊢
      rw [List.filter_cons, List.filter_cons]
      by_cases ha : y.L.a = (b : Int)
      · simp only [ha, decide_true, if_true, List.length_cons]
        omega
      · simp only [ha, decide_false, Bool.false_eq_true, if_false]
        exact ih
theorem cN_le (a : Nat) (E : List NEn) : 0 ≤ cN a E ∧ cN a E ≤ (E.length : Int) := by
  unfold cN
  have := List.length_filter_le (fun p : NEn => decide (p.L.a = (a : Int))) E
  omega
/-- the net beside the counts -/
structure CSt (w wr : World) (B sb mb gc : Nat) (E : List NEn) (d s : Nat) : Prop where
  net : NetAt wr B sb mb E d
  cnt : Box wr gc 66 (cntL E).toArray
  rng : ∀ p ∈ E, 1 ≤ p.L.a ∧ p.L.a ≤ s
  below : Below w.heap.size w wr
  lo : w.heap.size ≤ B ∧ w.heap.size ≤ gc ∧ B ≤ wr.heap.size
section
variable {w wr w' : World} {B sb mb gc : Nat} {E : List NEn} {d s : Nat}
theorem CSt.next (h : CSt w wr B sb mb gc E d s) (hb : Below wr.heap.size wr w') : CSt w w' B sb mb gc E d s :=
  ⟨h.net.below hb, h.cnt.below hb h.cnt.lt, h.rng, h.below.trans (hb.mono h.below.size), h.lo.1, h.lo.2.1, Nat.le_trans h.lo.2.2 hb.size⟩
theorem CSt.drewN (h : CSt w wr B sb mb gc E d s) (q : Nat) : CSt w (wr.drewN q) B sb mb gc E d s :=
  ⟨⟨h.net.sB, h.net.mB, h.net.box, h.net.own, h.net.rise, h.net.nums, h.net.rows, h.net.good⟩, h.cnt, h.rng, ⟨h.below.os, h.below.tape, h.below.output, h.below.size, h.below.block⟩, h.lo⟩
theorem CSt.at_ (h : CSt w wr B sb mb gc E d s) {a : Nat} (ha : a < 101) : wr.cell? ⟨gc, a, none⟩ = some (.int .i64 (cN a E)) ∧ wr.frozen? ⟨gc, a, none⟩ = false :=
  ⟨by rw [h.cnt.cell a]; simpa using cntL_at ha, h.cnt.frozen a⟩
/-- the net goes on, the counts wait -/
structure CMid (w wr : World) (B sb mb gc : Nat) (E0 E : List NEn) (d s : Nat) : Prop where
  net : NetAt wr B sb mb E d
  cnt : Box wr gc 66 (cntL E0).toArray
  rng : ∀ p ∈ E, 1 ≤ p.L.a ∧ p.L.a ≤ s
  below : Below w.heap.size w wr
  lo : w.heap.size ≤ B ∧ w.heap.size ≤ gc ∧ B ≤ wr.heap.size
theorem CSt.mid {E' : List NEn} {d' s' : Nat} (h : CSt w wr B sb mb gc E d s) (hk : Kept2 sb mb wr w') (hn : NetAt w' B sb mb E' d') (hr : ∀ p ∈ E', 1 ≤ p.L.a ∧ p.L.a ≤ s') : CMid w w' B sb mb gc E E' d' s' :=
  ⟨hn, h.net.boxKept hk h.cnt (by decide), hr, h.below.trans (hk.below (Nat.le_trans h.lo.1 h.net.sB) (Nat.le_trans h.lo.1 h.net.mB) h.below.size), h.lo.1, h.lo.2.1, Nat.le_trans h.lo.2.2 hk.size⟩
variable {E0 : List NEn}
theorem CMid.next (h : CMid w wr B sb mb gc E0 E d s) (hb : Below wr.heap.size wr w') : CMid w w' B sb mb gc E0 E d s :=
  ⟨h.net.below hb, h.cnt.below hb h.cnt.lt, h.rng, h.below.trans (hb.mono h.below.size), h.lo.1, h.lo.2.1, Nat.le_trans h.lo.2.2 hb.size⟩
theorem CMid.at_ (h : CMid w wr B sb mb gc E0 E d s) {a : Nat} (ha : a < 101) : wr.cell? ⟨gc, a, none⟩ = some (.int .i64 (cN a E0)) ∧ wr.frozen? ⟨gc, a, none⟩ = false :=
  ⟨by rw [h.cnt.cell a]; simpa using cntL_at ha, h.cnt.frozen a⟩
/-- the count is brought up to date -/
theorem CMid.set (h : CMid w wr B sb mb gc E0 E d s) {a : Nat} {v : Int} (h1 : cN a E = v) (h2 : ∀ b, b ≠ a → cN b E = cN b E0) : CSt w (wr.setCell ⟨gc, a, none⟩ (.int .i64 v)) B sb mb gc E d s := by
  have gr : wr.grownBy (wr.setCell ⟨gc, a, none⟩ (.int .i64 v)) (some gc) := ⟨rfl, rfl, rfl, by simp, fun k _ hne => Below.heap_setCell wr ⟨gc, a, none⟩ (.int .i64 v) k (fun e => hne (by rw [e]))⟩
  obtain ⟨es, c, hm⟩ := mapN_block h.net.own
  have hne := box_no_net h.cnt h.net.box hm (by decide)
  have hbx := h.cnt.set_ a (.int .i64 v)
  rw [List.setIfInBounds_toArray, cntL_set h1 h2] at hbx
  exact ⟨{ h.net with
      box := h.net.box.grown gr (fun e => hne.1 (by injection e with e; exact e.symm))
      own := mapN_keep h.net.own (gr.block mb h.net.own.lt (fun e => hne.2 (by injection e with e; exact e.symm)))
      rows := fun p hp => ⟨own_grownT (h.net.rows p hp).1 gr (own_box_ne (h.net.rows p hp).1 h.cnt (by decide)), own_grownT (h.net.rows p hp).2 gr (own_box_ne (h.net.rows p hp).2 h.cnt (by decide))⟩ },
    hbx, h.rng, h.below.grown gr h.below.size (fun g hg => by injection hg with hg; have := h.lo.2.1; omega), h.lo.1, h.lo.2.1, by simpa using h.lo.2.2⟩
/-- nothing was brought up to date, for nothing was changed -/
theorem CMid.same (h : CMid w wr B sb mb gc E E d s) : CSt w wr B sb mb gc E d s := ⟨h.net, h.cnt, h.rng, h.below, h.lo⟩
end
end Go.Proofs.Ytabcoidjbigdbaa

/- Package lock: Holds, Ranges. Condition: the table is in memory, its locks as they may be. -/
import Derived.Test.YtijcaefpainhcaaLkE
import Derived.Test.YtijcaefpainhcaaRngN
import Derived.Test.YtijcaefpainhcaaRngM
import Derived.Deep.RegionHeld3
namespace Go.Proofs.Ytijcaefpainhcaa
open Go.RowKit Go.Maps

noncomputable def holdsB (k : Int) (r : Rg) (E : List TL) : Bool := match getL k E with | some p => coversB p.L r | none => false
section
variable {F : Nat → Prop} {w : World} {sb mb : Nat} {lease b : Int} {M : List LE} {N : Nat}
set_option maxRecDepth 100000 in
set_option maxHeartbeats 6400000 in
theorem lockRanges_any (h : LkAt w F sb mb lease M) (hI : TInv b N (pl M)) (hN : N ≤ 10000) (k : Int) (hk : (Lit.int .i64 k).wf = true) : Calls Try.prog 37 #[.pointer (some ⟨sb, 0, none⟩), .int .i64 k] w fun e w' =>
    ∃ v, e = .returned v ∧ OwnRgs w' w.heap.size v (rangesT k (pl M)) ∧ Below w.heap.size w w' := by
  obtain ⟨q0, q1⟩ := h.cells
  obtain ⟨l0, l1⟩ := h.look k hk
  unfold rangesT
  rw [pl_get]
  cases hg : getM k M with
  | none =>
    have hl := l0 hg
    clear l0 l1 h
    go_enter Try.func37, Try.ntmps37
    go_wp2
    go_ret
    exact ⟨_, rfl, OwnRgs.nil _ _, Below.refl _ _⟩
  | some e =>
    have hl := l1 e hg
    obtain ⟨he, hn⟩ := getM_some hg
    obtain ⟨c0, hrs⟩ := h.has he
    have ho := hI.one e.p (List.mem_map.2 ⟨e, he, rfl⟩)
    have Hle := Lib.hid (least_any e.A e.p.L.length e.c w.heap.size 200 e.p.L w hrs (Nat.le_refl _) (by have := ho.len; omega) ho.small (by omega))
    have Hf := Lib.hid ho.form
    simp only [Option.map_some]
    clear l0 l1 h hg he hn hrs ho
    go_enter Try.func37, Try.ntmps37
    go_wp2_with fail
    refine Hle.out.mono ?_
    rintro ee w1 ⟨m, v, rfl, om, fm, lm, sm, bm⟩
    have e1 : m = e.p.L := isForm_uniq fm ⟨Hf.out, fun _ => Iff.rfl⟩ (fun _ => Iff.rfl)
    subst e1
    have HE := Lib.hid (And.intro om bm)
    clear om bm fm lm sm
    go_wp2
    go_ret
    exact ⟨_, rfl, HE.out.1, HE.out.2⟩
set_option maxRecDepth 100000 in
set_option maxHeartbeats 6400000 in
theorem lockHolds_any (h : LkAt w F sb mb lease M) (hI : TInv b N (pl M)) (hN : N ≤ 10000) (k : Int) (hk : (Lit.int .i64 k).wf = true) (r : Rg) (hr : r.lo.size ≤ 200 ∧ r.hi.size ≤ 200) : Calls Try.prog 32 #[.pointer (some ⟨sb, 0, none⟩), .int .i64 k, ragg r] w fun e w' =>
    e = .returned (.bool (holdsB k r (pl M))) ∧ Below w.heap.size w w' := by
  obtain ⟨w1, hw1⟩ : ∃ w1, w.alloc (.cells #[.string r.lo, .string r.hi] 23) = w1 := ⟨_, rfl⟩
  have b1 : Below w.heap.size w w1 := hw1 ▸ below_box _
  have x1 : Box w1 w.heap.size 23 #[.string r.lo, .string r.hi] := hw1 ▸ Box.made _ _ _
  have h1 := h.below b1
  obtain ⟨q0, q1⟩ := h1.cells
  obtain ⟨l0, l1⟩ := h1.look k hk
  unfold holdsB
  rw [pl_get]
  have p0 : w1.cell? ⟨w.heap.size, 0, none⟩ = some (.string r.lo) := x1.cell 0
  have p1 : w1.cell? ⟨w.heap.size, 1, none⟩ = some (.string r.hi) := x1.cell 1
  have Hb := Lib.hid b1
  cases hg : getM k M with
  | none =>
    have hl := l0 hg
    unfold ragg
    clear l0 l1 h h1 x1 b1 hr
    go_enter Try.func32, Try.ntmps32
    go_wp2
    go_quiet (fail)
    go_wp2
    go_ret
    exact ⟨rfl, below_drN Hb.out _⟩
  | some e =>
    have hl := l1 e hg
    obtain ⟨he, hn⟩ := getM_some hg
    obtain ⟨c0, hrs⟩ := h1.has he
    have HS : Hid (∀ wx, Below w1.heap.size w1 wx → wx.cell? ⟨w.heap.size, 0, none⟩ = some (.string r.lo) ∧ wx.cell? ⟨w.heap.size, 1, none⟩ = some (.string r.hi) ∧ wx.cell? ⟨e.b, 0, none⟩ = some (.slice e.A e.p.L.length e.c)) := Lib.hid fun wx hx => by
      have a := x1.below hx x1.lt
      exact ⟨a.cell 0, a.cell 1, ((h1.below hx).has he).1⟩
    have ho := hI.one e.p (List.mem_map.2 ⟨e, he, rfl⟩)
    have Hcv := Lib.hid (fun wx (hx : Below w1.heap.size w1 wx) => covers_any e.A e.p.L.length e.c w1.heap.size 200 e.p.L r wx (hrs.belowOf hx (Nat.le_refl _)) hx.size (by have := ho.len; omega) ho.small (by omega) hr)
    simp only [Option.map_some]
    unfold ragg at Hcv ⊢
    clear l0 l1 h h1 hg he hn hrs ho x1 b1 hr
    go_enter Try.func32, Try.ntmps32
    go_wp2
    go_region_held3 (fun wx => wx.cell? ⟨w.heap.size, 0, none⟩ = some (.string r.lo) ∧ wx.cell? ⟨w.heap.size, 1, none⟩ = some (.string r.hi) ∧ wx.cell? ⟨e.b, 0, none⟩ = some (.slice e.A e.p.L.length e.c)) (first | exact ⟨p0, p1, c0⟩ | exact S2.out | exact HS.out _ (Below.refl _ _).drew)
      (first
        | (go_at_call 23; refine (Hcv.out _ (Below.refl _ _).drew).mono ?_; rintro ee w2 ⟨rfl, b2⟩; have B2 := Lib.hid ((Below.refl _ w1).drew.trans b2); have S2 := Lib.hid (HS.out _ B2.out)))
    have HE := Lib.hid (Hb.out.trans (B2.out.mono Hb.out.size))
    clear S2 B2 b2
    go_wp2
    go_ret
    exact ⟨rfl, HE.out⟩
end
end Go.Proofs.Ytijcaefpainhcaa

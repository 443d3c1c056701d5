/- Look and At answer the same; what is under way is the same. No condition. -/
import Derived.Test.YtabcoidjbigdbaaMNpA
import Derived.Test.YtabcoidjbigdbaaLetPb
import Derived.BigQuiet
import Derived.Deep.RegionHeld3
import Derived.Test.YtabcoidjbigdbaaLetL
import Derived.Test.YtabcoidjbigdbaaLetP
import Derived.Test.YtabcoidjbigdbaaLetIn
namespace Go.Proofs.Ytabcoidjbigdbaa
open Go.RowKit

def sn15 (p : NEn) : List Value := [.int .i64 p.n, .int .i64 p.L.kind, .int .i64 p.L.frm, .int .i64 p.L.to, .int .i64 p.L.a, .int .i64 p.L.b, .int .i64 p.L.c, .int .i64 p.L.d, .string p.L.s, .string p.L.t, .slice p.Ap p.L.ps.length p.cp, .slice p.Ai p.L.is.length p.ci, .int .i64 p.L.code, .bool p.L.yes, .string p.L.body]
def snCells : List NEn → List Value
  | [] => []
  | p :: l => sn15 p ++ snCells l
theorem snCells_len (l : List NEn) : (snCells l).length = l.length * 15 := by
  induction l with
  | nil => rfl
  | cons v l ih =>
    have : (sn15 v).length = 15 := rfl
    simp only [snCells, List.length_append, List.length_cons, ih, this]
    omega
theorem snCells_app (a b : List NEn) : snCells (a ++ b) = snCells a ++ snCells b := by
  induction a with
  | nil => rfl
  | cons v l ih => simp [snCells, ih]
theorem sn15_one (p : NEn) : ∀ u ∈ sn15 p, u.oneCell' = true := by
  intro u hu
  simp only [sn15, List.mem_cons, List.not_mem_nil, or_false] at hu
  rcases hu with rfl | rfl | rfl | rfl | rfl | rfl | rfl | rfl | rfl | rfl | rfl | rfl | rfl | rfl | rfl <;> rfl
theorem snCells_one (l : List NEn) : ∀ u ∈ snCells l, u.oneCell' = true := by
  induction l with
  | nil => intro u hu; simp [snCells] at hu
  | cons v l ih =>
    intro u hu
    rcases List.mem_append.1 hu with h | h
    · exact sn15_one v u h
    · exact ih u h
theorem snCells_at : ∀ (l : List NEn) (i j : Nat) (p : NEn), l[i]? = some p → j < 15 → (snCells l)[i * 15 + j]? = (sn15 p)[j]?
  | [], i, j, v, h, _ => by simp at h
  | w :: l, 0, j, v, h, hj => by
    simp at h
    subst h
    have h15 : (sn15 w).length = 15 := rfl
    rw [Nat.zero_mul, Nat.zero_add, snCells, List.getElem?_append_left (by omega)]
  | w :: l, i + 1, j, v, h, hj => by
    have ih := snCells_at l i j v (by simpa using h) hj
    have h15 : (sn15 w).length = 15 := rfl
    rw [snCells, List.getElem?_append_right (by omega), h15, show (i + 1) * 15 + j - 15 = i * 15 + j from by omega]
    exact ih
theorem snCells_drop : ∀ (l : List NEn) (k : Nat), (snCells l).drop (k * 15) = snCells (l.drop k)
  | [], k => by simp [snCells]
  | c :: l, 0 => by simp
  | c :: l, k + 1 => by
    have h15 : (sn15 c).length = 15 := rfl
    rw [show (k + 1) * 15 = 15 + k * 15 from by omega, ← List.drop_drop, snCells, List.drop_left' h15, List.drop_succ_cons]
    exact snCells_drop l k
theorem snCells_take : ∀ (l : List NEn) (k : Nat), (snCells l).take (k * 15) = snCells (l.take k)
  | [], k => by simp [snCells]
  | c :: l, 0 => by simp [snCells]
  | c :: l, k + 1 => by
    have h15 : (sn15 c).length = 15 := rfl
    rw [show (k + 1) * 15 = 15 + k * 15 from by omega, snCells, List.take_add, List.take_left' h15, List.drop_left' h15, List.take_succ_cons, snCells, snCells_take l k]
/-- The slice value with address A and length n holds the numbered letters l. -/
def HasSns (w : World) (B : Nat) (A : Option Addr) (n : Nat) (l : List NEn) : Prop := l.length = n ∧ Has w B A (n * 15) (snCells l)
section
variable {w w' : World} {B B' n : Nat} {A : Option Addr} {l : List NEn}
theorem HasSns.nil (w : World) (B : Nat) (A : Option Addr) : HasSns w B A 0 [] := ⟨rfl, Has.nil _ _ _⟩
theorem HasSns.at_ (h : HasSns w B A n l) {i : Nat} (hi : i < n) : ∃ a v, A = some a ∧ a.block < B ∧ l[i]? = some v ∧ w.cell? (a.add (i * 15)) = some (.int .i64 v.n) ∧
    (w.cell? ⟨(a.add (i * 15)).block, (a.add (i * 15)).off + 1, none⟩ = some (.int .i64 v.L.kind) ∧ w.cell? ⟨(a.add (i * 15)).block, (a.add (i * 15)).off + 2, none⟩ = some (.int .i64 v.L.frm) ∧ w.cell? ⟨(a.add (i * 15)).block, (a.add (i * 15)).off + 3, none⟩ = some (.int .i64 v.L.to) ∧ w.cell? ⟨(a.add (i * 15)).block, (a.add (i * 15)).off + 4, none⟩ = some (.int .i64 v.L.a) ∧ w.cell? ⟨(a.add (i * 15)).block, (a.add (i * 15)).off + 5, none⟩ = some (.int .i64 v.L.b) ∧ w.cell? ⟨(a.add (i * 15)).block, (a.add (i * 15)).off + 6, none⟩ = some (.int .i64 v.L.c) ∧ w.cell? ⟨(a.add (i * 15)).block, (a.add (i * 15)).off + 7, none⟩ = some (.int .i64 v.L.d) ∧ w.cell? ⟨(a.add (i * 15)).block, (a.add (i * 15)).off + 8, none⟩ = some (.string v.L.s) ∧ w.cell? ⟨(a.add (i * 15)).block, (a.add (i * 15)).off + 9, none⟩ = some (.string v.L.t) ∧ w.cell? ⟨(a.add (i * 15)).block, (a.add (i * 15)).off + 10, none⟩ = some (.slice v.Ap v.L.ps.length v.cp) ∧ w.cell? ⟨(a.add (i * 15)).block, (a.add (i * 15)).off + 11, none⟩ = some (.slice v.Ai v.L.is.length v.ci) ∧ w.cell? ⟨(a.add (i * 15)).block, (a.add (i * 15)).off + 12, none⟩ = some (.int .i64 v.L.code) ∧ w.cell? ⟨(a.add (i * 15)).block, (a.add (i * 15)).off + 13, none⟩ = some (.bool v.L.yes) ∧ w.cell? ⟨(a.add (i * 15)).block, (a.add (i * 15)).off + 14, none⟩ = some (.string v.L.body)) := by
  obtain ⟨hl, hh⟩ := h
  have hil : i < l.length := by omega
  have hc := fun j hj => snCells_at l i j l[i] (List.getElem?_eq_getElem hil) hj
  obtain ⟨a, rfl, hb, hg⟩ := hh.all (by omega)
  refine ⟨a, _, rfl, hb, List.getElem?_eq_getElem hil, hg _ _ (hc 0 (by omega)), ?_⟩
  have hs := fun (j : Nat) (hj : 0 < j) (h15 : j < 15) u (hu : (sn15 l[i])[j]? = some u) => (lp_step a (i * 15) j hj) ▸ hg (i * 15 + j) u ((hc j h15).trans hu)
  exact ⟨hs 1 (by omega) (by omega) _ rfl, hs 2 (by omega) (by omega) _ rfl, hs 3 (by omega) (by omega) _ rfl, hs 4 (by omega) (by omega) _ rfl, hs 5 (by omega) (by omega) _ rfl, hs 6 (by omega) (by omega) _ rfl, hs 7 (by omega) (by omega) _ rfl, hs 8 (by omega) (by omega) _ rfl, hs 9 (by omega) (by omega) _ rfl, hs 10 (by omega) (by omega) _ rfl, hs 11 (by omega) (by omega) _ rfl, hs 12 (by omega) (by omega) _ rfl, hs 13 (by omega) (by omega) _ rfl, hs 14 (by omega) (by omega) _ rfl⟩
theorem HasSns.more (h : HasSns w B A n l) (hB : B ≤ B') : HasSns w B' A n l := ⟨h.1, h.2.more hB⟩
theorem HasSns.below (h : HasSns w B A n l) (hb : Below B w w') : HasSns w' B A n l := ⟨h.1, h.2.below hb⟩
theorem HasSns.belowOf (h : HasSns w B A n l) {C : Nat} (hb : Below C w w') (hC : B ≤ C) : HasSns w' B A n l := ⟨h.1, h.2.belowOf hb hC⟩
theorem HasSns.keep (h : HasSns w B A n l) (hk : ∀ p : Addr, p.block < B → w'.cell? p = w.cell? p) : HasSns w' B A n l := ⟨h.1, h.2.keep hk⟩
end
theorem sn_elem : ElemN Try.prog 59 15 176 (.agg #[.int .i64 0, .int .i64 0, .int .i64 0, .int .i64 0, .int .i64 0, .int .i64 0, .int .i64 0, .int .i64 0, .string ⟨#[]⟩, .string ⟨#[]⟩, .slice none 0 0, .slice none 0 0, .int .i64 0, .bool false, .string ⟨#[]⟩]) := ⟨by kernel_rfl, by kernel_rfl⟩

/-- a row of numbered letters that the call owns -/
def OwnSns (w : World) (B : Nat) (v : Value) (l : List NEn) : Prop := w.ownsRow B 59 15 v l.length (snCells l)
theorem OwnSns.slice {w : World} {B : Nat} {v : Value} {l : List NEn} (h : OwnSns w B v l) : ∃ A c, v = .slice A l.length c ∧ l.length ≤ c ∧ c ≤ maxLen ∧ HasSns w w.heap.size A l.length l := by
  obtain ⟨A, c, e, h1, h2, h3⟩ := own_sliceN h
  exact ⟨A, c, e, h1, h2, rfl, h3⟩
theorem OwnSns.nil (w : World) (B : Nat) : OwnSns w B (.slice none 0 0) [] := World.ownsRow_nil _ _ _ _
theorem OwnSns.below {w w' : World} {B : Nat} {v : Value} {l : List NEn} (h : OwnSns w B v l) (hb : Below w.heap.size w w') : OwnSns w' B v l := own_belowN h hb
theorem sn_lit (w : World) (p : NEn) : Has (w.alloc (.cells #[.int .i64 p.n, .int .i64 p.L.kind, .int .i64 p.L.frm, .int .i64 p.L.to, .int .i64 p.L.a, .int .i64 p.L.b, .int .i64 p.L.c, .int .i64 p.L.d, .string p.L.s, .string p.L.t, .slice p.Ap p.L.ps.length p.cp, .slice p.Ai p.L.is.length p.ci, .int .i64 p.L.code, .bool p.L.yes, .string p.L.body] 59)) (w.heap.size + 1) (some ⟨w.heap.size, 0, none⟩) (1 * 15) (snCells [p]) :=
  Has.lit w #[.int .i64 p.n, .int .i64 p.L.kind, .int .i64 p.L.frm, .int .i64 p.L.to, .int .i64 p.L.a, .int .i64 p.L.b, .int .i64 p.L.c, .int .i64 p.L.d, .string p.L.s, .string p.L.t, .slice p.Ap p.L.ps.length p.cp, .slice p.Ai p.L.is.length p.ci, .int .i64 p.L.code, .bool p.L.yes, .string p.L.body] 59

/-- what changes the document's net: nothing below block B turns, and of the rest only boxes of the net's own types -/
def NotR (o : Obj) : Prop := ∀ cs t, o = .cells cs t → t ≠ 47 ∧ t ≠ 59
structure KeptR (B : Nat) (w w' : World) : Prop where
  below : Below B w w'
  typed : ∀ (i : Nat) (o : Obj), w.heap[i]? = some o → NotR o → w'.heap[i]? = some o
theorem KeptR.of {B : Nat} {w w' : World} (h : Below w.heap.size w w') (hB : B ≤ w.heap.size) : KeptR B w w' :=
  ⟨h.mono hB, fun i _ ho _ => (h.block i (Array.getElem?_eq_some_iff.1 ho).1).trans ho⟩
theorem KeptR.trans {B : Nat} {w w1 w2 : World} (h : KeptR B w w1) (k : KeptR B w1 w2) : KeptR B w w2 := ⟨h.below.trans k.below, fun i o ho hn => k.typed i o (h.typed i o ho hn) hn⟩
theorem KeptR.grown {B : Nat} {w w' : World} {g : Option Nat} (h : w.grownBy w' g) (hB : B ≤ w.heap.size) (hg : ∀ i, g = some i → B ≤ i ∧ ∀ (o : Obj), w.heap[i]? = some o → ¬ NotR o) : KeptR B w w' :=
  ⟨(Below.refl B w).grown h hB fun k hk => (hg k hk).1, fun i o ho hn => (h.block i (Array.getElem?_eq_some_iff.1 ho).1 fun e => (hg i e.symm).2 o ho hn).trans ho⟩
/-- The pointer to block rb is the document's net: its letters R, the last number d; their rows lie below block C. -/
structure RNet (w : World) (B C rb : Nat) (v : Value) (R : List NEn) (d : Nat) : Prop where
  rB : B ≤ rb
  box : Box w rb 47 #[v, .int .i64 d]
  own : OwnSns w B v R
  rows : ∀ p ∈ R, HasLps w C p.Ap p.L.ps.length p.L.ps ∧ HasLis w C p.Ai p.L.is.length p.L.is
section
variable {w w' : World} {B C rb sb mb d d' : Nat} {v : Value} {R E : List NEn}
theorem sn_types : (59 : TypeId) ≠ 47 ∧ (59 : TypeId) ≠ 102 ∧ (47 : TypeId) ≠ 102 := by decide
theorem notR_box {t : TypeId} (h1 : t ≠ 47) (h2 : t ≠ 59) (cs : Array Value) : NotR (.cells cs t) := by
  intro cs' t' e
  injection e with _ e
  subst e
  exact ⟨h1, h2⟩
theorem KeptR.own {m size : Nat} {e : TypeId} {u : Value} {xs : List Value} (k : KeptR B w w') (h : w.ownsRow B e size u m xs) (h1 : e ≠ 47) (h2 : e ≠ 59) : w'.ownsRow B e size u m xs := by
  refine ownN_keep h fun g hg => ?_
  rcases h.2 with ⟨rfl, _⟩ | ⟨g1, cap, cur, rfl, hB, hh, rest⟩
  · cases hg
  · cases hg
    rw [hh]
    exact k.typed _ _ hh (notR_box h1 h2 _)
theorem NetAt.keptR (h : NetAt w B sb mb E d) (k : KeptR B w w') : NetAt w' B sb mb E d := by
  obtain ⟨es, c, hm⟩ := mapN_block h.own
  refine ⟨h.sB, h.mB, ?_, mapN_keep h.own ?_, h.rise, h.nums, fun p hp => ⟨k.own (h.rows p hp).1 (by decide) (by decide), k.own (h.rows p hp).2 (by decide) (by decide)⟩, h.good⟩
  · exact k.typed _ _ h.box (notR_box (by decide) (by decide) _)
  · rw [hm]
    exact k.typed _ _ hm (by intro cs t e; cases e)
theorem RNet.kept2 (r : RNet w B C rb v R d) (hC : C ≤ B) (h : NetAt w B sb mb E d') (k : Kept2 sb mb w w') : RNet w' B C rb v R d := by
  obtain ⟨es, c, hm⟩ := mapN_block h.own
  have hn := box_no_net r.box h.box hm sn_types.2.2
  have hbl : Below C w w' := ⟨k.os, k.tape, k.output, k.size, fun i hi => by have := r.rB; have := r.box.lt; have := h.sB; have := h.mB; exact k.block i (by omega) (by omega) (by omega)⟩
  refine ⟨r.rB, (k.block rb r.box.lt hn.1 hn.2).trans r.box, ?_, fun p hp => ⟨(r.rows p hp).1.below hbl, (r.rows p hp).2.below hbl⟩⟩
  exact ownN_keep r.own fun g hg => k.block g (r.own.lt g hg).2 (own_no_net r.own h.box hm sn_types.2.1 g hg).1 (own_no_net r.own h.box hm sn_types.2.1 g hg).2
theorem RNet.below (r : RNet w B C rb v R d) (hC : C ≤ w.heap.size) (hb : Below w.heap.size w w') : RNet w' B C rb v R d :=
  ⟨r.rB, r.box.below hb r.box.lt, r.own.below hb, fun p hp => ⟨(r.rows p hp).1.belowOf hb hC, (r.rows p hp).2.belowOf hb hC⟩⟩
end
end Go.Proofs.Ytabcoidjbigdbaa

namespace Go.Proofs.Ytabcoidjbigdbaa
open Go.RowKit

def AtPost (k : Int) (R : List NEn) (w : World) (e : Ending) (w' : World) : Prop :=
  w' = w ∧ ((e = .returned (.int .i64 (-1)) ∧ ∀ p ∈ R, p.n ≠ k) ∨ ∃ (i : Nat) (p : NEn), e = .returned (.int .i64 (i : Int)) ∧ R[i]? = some p ∧ p.n = k ∧ ∀ q ∈ R.take i, q.n ≠ k)
section
variable {w : World} {B C rb d : Nat} {v : Value} {R : List NEn}
theorem RNet.cells (h : RNet w B C rb v R d) : w.cell? ⟨rb, 0, none⟩ = some v ∧ w.cell? ⟨rb, 1, none⟩ = some (.int .i64 d) ∧ w.frozen? ⟨rb, 0, none⟩ = false ∧ w.frozen? ⟨rb, 1, none⟩ = false :=
  ⟨h.box.cell 0, h.box.cell 1, h.box.frozen 0, h.box.frozen 1⟩
set_option maxRecDepth 100000 in
set_option maxHeartbeats 1600000 in
theorem refAt_any (h : RNet w B C rb v R d) (hR : R.length ≤ 100000) (k : Int) :
    Calls Try.prog 30 #[.pointer (some ⟨rb, 0, none⟩), .int .i64 k] w (AtPost k R w) := by
  obtain ⟨q0, -, -, -⟩ := h.cells
  obtain ⟨A, c, rfl, -, -, hs⟩ := h.own.slice
  obtain ⟨n, hn⟩ : ∃ n, R.length = n := ⟨_, rfl⟩
  rw [hn] at hR hs q0
  have Hs := Lib.hid hs
  have Hn := Lib.hid hn
  clear h hs hn
  unfold AtPost
  go_enter Try.func30, Try.ntmps30
  go_wp2
  go_loopw [5] (fun iv wr => ∃ j : Nat, j ≤ n ∧ iv = .int .i64 (j : Int) ∧ Hid (∀ q ∈ R.take j, q.n ≠ k) ∧ wr = w) (fun iv _ => n - (intOf iv).toNat)
  case atStart => exact ⟨0, by omega, rfl, Lib.hid (by simp), rfl⟩
  case round =>
    obtain ⟨j, hj, rfl, Hp, rfl⟩ := hrel
    by_cases hlt : j < n
    · obtain ⟨a, y, rfl, hab, hy, c0, -⟩ := Hs.out.at_ hlt
      have Hy := Lib.hid hy
      have hk0 : (0 : Int) ≤ (j : Int) := by omega
      have hk1 : (j : Int) < (n : Int) := by omega
      obtain ⟨yn, hyn⟩ : ∃ yn, y.n = yn := ⟨_, rfl⟩
      have Hyn := Lib.hid hyn
      rw [hyn] at c0
      clear hy hyn hab
      by_cases hk : yn = k
      · subst hk
        go_wp2
        go_ret
        exact ⟨rfl, .inr ⟨j, y, rfl, Hy.out, Hyn.out, Hp.out⟩⟩
      · have Hp1 : Hid (∀ q ∈ R.take (j + 1), q.n ≠ k) := Lib.hid (by
          rw [List.take_add_one, Hy.out]
          intro x hx
          rcases List.mem_append.1 hx with hx | hx
          · exact Hp.out x hx
          · simp at hx; subst hx; rw [Hyn.out]; exact hk)
        go_wp2
        go_roundw
        case rel => exact ⟨j + 1, by omega, by go_num, Hp1, trivial⟩
        case measure => simp [intOf]; omega
    · have E : Hid (∀ q ∈ R, q.n ≠ k) := Lib.hid (by have h1 := Hp.out; rwa [List.take_of_length_le (by have := Hn.out; omega)] at h1)
      go_wp2
      go_ret
      exact ⟨rfl, .inl ⟨rfl, E.out⟩⟩
set_option maxRecDepth 100000 in
set_option maxHeartbeats 1600000 in
theorem sameInts_any (A A' : Option Addr) (n n' c c' D D' : Nat) (xs ys : List Int) (w : World) (h : Has w D A n (xs.map encZ)) (h' : Has w D' A' n' (ys.map encZ)) (hl : xs.length = n) (hl' : ys.length = n') (hn : n ≤ maxLen) (hn' : n' ≤ maxLen) :
    Calls Try.prog 31 #[.slice A n c, .slice A' n' c'] w fun e w' => e = .returned (.bool (decide (xs = ys))) ∧ Below w.heap.size w w' := by
  unfold maxLen at hn hn'
  have H := Lib.hid h
  have H' := Lib.hid h'
  have Hl := Lib.hid hl
  have Hm := Lib.hid hl'
  clear h h' hl hl'
  by_cases hnn : n = n'
  · subst hnn
    go_enter Try.func31, Try.ntmps31
    go_wp2
    go_loopw [5] (fun i wr => ∃ k : Nat, k ≤ n ∧ i = .int .i64 (k : Int) ∧ Hid (xs.take k = ys.take k) ∧ ∃ q, wr = w.drewN q) (fun i _ => n - (intOf i).toNat)
    case atStart => exact ⟨0, by omega, rfl, Lib.hid rfl, 0, rfl⟩
    case round =>
      obtain ⟨k, hk, rfl, Ht, q, rfl⟩ := hrel
      by_cases hlt : k < n
      · obtain ⟨a, rfl, _, hc⟩ := H.out.all (by omega)
        obtain ⟨b, rfl, _, hd⟩ := H'.out.all (by omega)
        obtain ⟨x, hx⟩ : ∃ x, xs[k]? = some x := ⟨_, List.getElem?_eq_getElem (by have := Hl.out; omega)⟩
        obtain ⟨y, hy⟩ : ∃ y, ys[k]? = some y := ⟨_, List.getElem?_eq_getElem (by have := Hm.out; omega)⟩
        have c0 : w.cell? (a.add k) = some (.int .i64 x) := hc k _ (by rw [List.getElem?_map, hx]; rfl)
        have d0 : w.cell? (b.add k) = some (.int .i64 y) := hd k _ (by rw [List.getElem?_map, hy]; rfl)
        have hk0 : (0 : Int) ≤ (k : Int) := by omega
        have hk1 : (k : Int) < (n : Int) := by omega
        have Hx := Lib.hid hx
        have Hy := Lib.hid hy
        clear hx hy hc hd
        by_cases e : x = y
        · subst e
          go_wp2
          go_quiet (fail)
          go_wp2
          go_roundw
          case rel => exact ⟨k + 1, by omega, by go_num, Lib.hid (by rw [List.take_add_one, List.take_add_one, Ht.out, Hx.out, Hy.out]), _, rfl⟩
          case measure => simp [intOf]; omega
        · have E : Hid (decide (xs = ys) = false) := Lib.hid (decide_eq_false fun e' => by
            rw [e', Hy.out] at Hx
            exact e (Option.some.inj Hx.out).symm)
          have hb : (x == y) = false := by simpa using e
          clear e
          go_wp2
          go_quiet (fail)
          go_wp2
          go_ret
          exact ⟨ret_bool (by rw [E.out]), below_drL (below_drL (Below.refl _ _) _) _⟩
      · have E : Hid (decide (xs = ys) = true) := Lib.hid (decide_eq_true (by
          have h1 := Ht.out
          rwa [List.take_of_length_le (by have := Hl.out; omega), List.take_of_length_le (by have := Hm.out; omega)] at h1))
        go_wp2
        go_ret
        exact ⟨ret_bool (by rw [E.out]), below_drL (Below.refl _ _) _⟩
  · have E : Hid (decide (xs = ys) = false) := Lib.hid (decide_eq_false fun e => hnn (by rw [← Hl.out, ← Hm.out, e]))
    have hnz : ((n : Int) == (n' : Int)) = false := by simp; omega
    go_enter Try.func31, Try.ntmps31
    go_wp2
    go_ret
    exact ⟨ret_bool (by rw [E.out]), Below.refl _ _⟩
theorem nint_elem : ElemN Try.prog 3 1 8 (.int .i64 0) := ⟨by kernel_rfl, rfl⟩
theorem one_intS (x : Int) : ∀ u ∈ [Value.int .i64 x], u.oneCell' = true := fun u hu => by simp at hu; subst hu; rfl
theorem take_numN {R : List NEn} {j : Nat} {y : NEn} (hy : R[j]? = some y) : ((R.take (j + 1)).map (·.n)).map encZ = ((R.take j).map (·.n)).map encZ ++ [.int .i64 y.n] := by
  rw [List.take_add_one, hy]
  simp [encZ]
set_option maxRecDepth 100000 in
set_option maxHeartbeats 1600000 in
theorem refUnder_any (h : RNet w B C rb v R d) (hR : R.length ≤ 100000) :
    Calls Try.prog 33 #[.pointer (some ⟨rb, 0, none⟩)] w fun e w' => ∃ u, e = .returned u ∧ w'.ownsRow w.heap.size 3 1 u R.length ((R.map (·.n)).map encZ) ∧ Below w.heap.size w w' := by
  obtain ⟨q0, -, -, -⟩ := h.cells
  have hsb := h.box.lt
  obtain ⟨A, c, rfl, -, -, hs⟩ := h.own.slice
  obtain ⟨n, hn⟩ : ∃ n, R.length = n := ⟨_, rfl⟩
  rw [hn] at hR hs q0
  have Hs := Lib.hid hs
  have Hn := Lib.hid hn
  have HQ : Hid (∀ wx, Below w.heap.size w wx → wx.cell? ⟨rb, 0, none⟩ = some (.slice A n c)) := Lib.hid fun wx hx => (hx.cell hsb).trans q0
  clear h hs hn
  rw [Hn.out]
  go_enter Try.func33, Try.ntmps33
  go_wp2
  go_loopw [3, 4] (fun u iv wr => ∃ j : Nat, j ≤ n ∧ iv = .int .i64 (j : Int) ∧ Hid (wr.ownsRow w.heap.size 3 1 u j (((R.take j).map (·.n)).map encZ)) ∧ Below w.heap.size w wr) (fun _ iv _ => n - (intOf iv).toNat)
  case atStart => exact ⟨0, by omega, rfl, Lib.hid (World.ownsRow_nil _ _ _ _), Below.refl _ _⟩
  case round =>
    obtain ⟨j, hj, rfl, Ho, hb⟩ := hrel
    obtain ⟨Au, cu, rfl, -, -, -⟩ := own_sliceN Ho.out
    have Hb := Lib.hid hb
    have q1 := HQ.out _ hb
    have hsz := hb.size
    clear hb
    by_cases hlt : j < n
    · obtain ⟨a, y, rfl, hab, hy, c0, -⟩ := (Hs.out.belowOf Hb.out (Nat.le_refl _)).at_ hlt
      have Hy := Lib.hid hy
      have hk0 : (0 : Int) ≤ (j : Int) := by omega
      have hk1 : (j : Int) < (n : Int) := by omega
      obtain ⟨yn, hyn⟩ : ∃ yn, y.n = yn := ⟨_, rfl⟩
      have Hyn := Lib.hid hyn
      rw [hyn] at c0
      clear hy hyn hab
      have HO : Hid ((wr.alloc (.cells #[.int .i64 yn] 3)).ownsRow w.heap.size 3 1 (.slice Au j cu) j (((R.take j).map (·.n)).map encZ)) := Lib.hid (own_belowN Ho.out (below_box _))
      have HL : Hid (Has (wr.alloc (.cells #[.int .i64 yn] 3)) (wr.heap.size + 1) (some ⟨wr.heap.size, 0, none⟩) (1 * 1) [.int .i64 yn]) := Lib.hid (Has.lit wr #[.int .i64 yn] 3)
      have hS : w.heap.size ≤ (wr.alloc (.cells #[.int .i64 yn] 3)).heap.size := by simp; omega
      have HBb : Hid (Below w.heap.size w (wr.alloc (.cells #[.int .i64 yn] 3))) := Lib.hid (Hb.out.trans ((below_box _).mono hsz))
      go_wp2_with (at_builtin; go_loud (refine wpList_append_hasN rfl (.tmp 14) (.tmp 23) _ rfl 3 nint_elem (by omega) Try.underlying61 rfl HO.out rfl HL.out (one_intS yn) (by simp only [maxLen]; omega) (by omega) hS ?_; intro v7 w7 o7 g7 z7; obtain ⟨A7, c7, rfl, -, -, -⟩ := own_sliceN o7; have HE := Lib.hid (And.intro o7 (HBb.out.grown g7 hS (fun g hg => (HO.out.lt g hg).1))); clear o7 g7 z7))
      go_roundw
      case rel => exact ⟨j + 1, by omega, by go_num, Lib.hid (by rw [take_numN Hy.out, Hyn.out]; exact HE.out.1), HE.out.2⟩
      case measure => simp [intOf]; omega
    · obtain rfl : j = n := by omega
      have HE : Hid (wr.ownsRow w.heap.size 3 1 (.slice Au j cu) j ((R.map (·.n)).map encZ)) := Lib.hid (by have h1 := Ho.out; rwa [List.take_of_length_le (by have := Hn.out; omega)] at h1)
      go_wp2
      go_ret
      exact ⟨_, rfl, HE.out, Hb.out⟩
end
end Go.Proofs.Ytabcoidjbigdbaa

namespace Go.Proofs.Ytabcoidjbigdbaa
open Go.RowKit

theorem setCell_grown (w : World) (g j : Nat) (u : Value) : w.grownBy (w.setCell ⟨g, j, none⟩ u) (some g) := ⟨rfl, rfl, rfl, by simp, fun k _ hne => Below.heap_setCell w ⟨g, j, none⟩ u k (fun e => hne (by rw [e]))⟩
theorem KeptR.setBox {w : World} {B rb j : Nat} {u : Value} {cs : Array Value} (bx : Box w rb 47 cs) (hB : B ≤ rb) (hs : B ≤ w.heap.size) : KeptR B w (w.setCell ⟨rb, j, none⟩ u) :=
  KeptR.grown (setCell_grown w rb j u) hs fun i hi => by
    injection hi with hi
    subst hi
    refine ⟨hB, fun o ho hn => ?_⟩
    unfold Box at bx
    rw [bx] at ho
    injection ho with ho
    subst ho
    exact (hn _ _ rfl).1 rfl
theorem KeptR.ownRow {w w' : World} {B m : Nat} {v : Value} {xs : List Value} (h : w.ownsRow B 59 15 v m xs) (g : w.grownBy w' v.ownBlock) (hs : B ≤ w.heap.size) : KeptR B w w' :=
  KeptR.grown g hs fun i hi => by
    refine ⟨(h.lt i hi).1, fun o ho hn => ?_⟩
    rcases h.2 with ⟨rfl, _⟩ | ⟨g1, cap, cur, rfl, hB, hh, rest⟩
    · cases hi
    · cases hi
      rw [hh] at ho
      injection ho with ho
      subst ho
      exact (hn _ _ rfl).2 rfl
def RAddPost (B C rb : Nat) (R : List NEn) (d : Nat) (L : Let) (w : World) (e : Ending) (w' : World) : Prop :=
  (4096 ≤ R.length ∧ e = .returned (.tuple #[.int .i64 0, .int .i64 17]) ∧ (∃ v, RNet w' B C rb v R d) ∧ Below w.heap.size w w') ∨
  (R.length < 4096 ∧ ∃ (en : NEn) (v : Value), en.n = ((d + 1 : Nat) : Int) ∧ en.L = L ∧ e = .returned (.tuple #[.int .i64 ((d + 1 : Nat) : Int), .int .i64 0]) ∧ RNet w' B C rb v (R ++ [en]) (d + 1) ∧ KeptR B w w')
section
variable {w : World} {B C rb d n c : Nat} {v : Value} {R : List NEn} {A : Option Addr}
theorem radd_end {w5 w7 : World} {A7 : Option Addr} {c7 : Nat} {en : NEn} (h : RNet w B C rb (.slice A n c) R d) (hC : C ≤ B) (hB : B ≤ w.heap.size) (hn : R.length = n) (k5 : KeptR B w w5) (bx5 : Box w5 rb 47 #[.slice A n c, .int .i64 ((d : Int) + 1)])
    (o5 : w5.ownsRow B 59 15 (.slice A n c) n (snCells R)) (o7 : w7.ownsRow B 59 15 (.slice A7 (n + 1) c7) (n + 1) (snCells R ++ snCells [en])) (g7 : w5.grownBy w7 (Value.slice A n c).ownBlock) (hr : HasLps w C en.Ap en.L.ps.length en.L.ps ∧ HasLis w C en.Ai en.L.is.length en.L.is) :
    w7.cell? ⟨rb, 0, none⟩ = some (.slice A n c) ∧ w7.frozen? ⟨rb, 0, none⟩ = false ∧ (w7.setCell ⟨rb, 0, none⟩ (.slice A7 (n + 1) c7)).cell? ⟨rb, 1, none⟩ = some (.int .i64 ((d : Int) + 1)) ∧
      RNet (w7.setCell ⟨rb, 0, none⟩ (.slice A7 (n + 1) c7)) B C rb (.slice A7 (n + 1) c7) (R ++ [en]) (d + 1) ∧ KeptR B w (w7.setCell ⟨rb, 0, none⟩ (.slice A7 (n + 1) c7)) := by
  have s5 : B ≤ w5.heap.size := Nat.le_trans hB k5.below.size
  have bx7 : Box w7 rb 47 #[.slice A n c, .int .i64 ((d : Int) + 1)] := bx5.grown g7 (fun e => own_box_ne o5 bx5 sn_types.1 rb e.symm rfl)
  have s7 : B ≤ w7.heap.size := Nat.le_trans s5 g7.size
  have k8 : KeptR B w (w7.setCell ⟨rb, 0, none⟩ (.slice A7 (n + 1) c7)) := (k5.trans (KeptR.ownRow o5 g7 s5)).trans (KeptR.setBox bx7 h.rB s7)
  have bx8 : Box (w7.setCell ⟨rb, 0, none⟩ (.slice A7 (n + 1) c7)) rb 47 #[.slice A7 (n + 1) c7, .int .i64 ((d : Int) + 1)] := by
    have h8 := bx7.set_ 0 (.slice A7 (n + 1) c7)
    simpa using h8
  refine ⟨bx7.cell 0, bx7.frozen 0, bx8.cell 1, ⟨h.rB, bx8, ?_, fun p hp => ?_⟩, k8⟩
  · unfold OwnSns
    rw [List.length_append, hn, snCells_app]
    exact own_grownT o7 (setCell_grown w7 rb 0 _) (own_box_ne o7 bx7 sn_types.1)
  · rcases List.mem_append.1 hp with hp | hp
    · exact ⟨(h.rows p hp).1.belowOf k8.below hC, (h.rows p hp).2.belowOf k8.below hC⟩
    · simp at hp
      subst hp
      exact ⟨hr.1.belowOf k8.below hC, hr.2.belowOf k8.below hC⟩
set_option maxRecDepth 100000 in
set_option maxHeartbeats 6400000 in
theorem refAdd_any (h : RNet w B C rb v R d) (hC : C ≤ B) (hB : B ≤ w.heap.size) (hd : d ≤ 100000000000) (L : Let) (Ap : Option Addr) (cp : Nat) (Ai : Option Addr) (ci : Nat) (hr : HasLps w C Ap L.ps.length L.ps ∧ HasLis w C Ai L.is.length L.is) :
    Calls Try.prog 63 #[.pointer (some ⟨rb, 0, none⟩), .agg #[.int .i64 L.kind, .int .i64 L.frm, .int .i64 L.to, .int .i64 L.a, .int .i64 L.b, .int .i64 L.c, .int .i64 L.d, .string L.s, .string L.t, .slice Ap L.ps.length cp, .slice Ai L.is.length ci, .int .i64 L.code, .bool L.yes, .string L.body]] w (RAddPost B C rb R d L w) := by
  obtain ⟨A, c, rfl, -, -, hs⟩ := h.own.slice
  obtain ⟨n, hn⟩ : ∃ n, R.length = n := ⟨_, rfl⟩
  have hown := h.own
  unfold OwnSns at hown
  rw [hn] at hs h hown
  obtain ⟨w1, hw1⟩ : ∃ w1, (w.alloc (.cells #[.int .i64 L.kind, .int .i64 L.frm, .int .i64 L.to, .int .i64 L.a, .int .i64 L.b, .int .i64 L.c, .int .i64 L.d, .string L.s, .string L.t, .slice Ap L.ps.length cp, .slice Ai L.is.length ci, .int .i64 L.code, .bool L.yes, .string L.body] 26)) = w1 := ⟨_, rfl⟩
  have b1 : Below w.heap.size w w1 := hw1 ▸ below_box _
  have x1 : Box w1 w.heap.size 26 #[.int .i64 L.kind, .int .i64 L.frm, .int .i64 L.to, .int .i64 L.a, .int .i64 L.b, .int .i64 L.c, .int .i64 L.d, .string L.s, .string L.t, .slice Ap L.ps.length cp, .slice Ai L.is.length ci, .int .i64 L.code, .bool L.yes, .string L.body] := hw1 ▸ Box.made _ _ _
  have h1 := h.below (Nat.le_trans hC hB) b1
  obtain ⟨q0, q1, f0, f1⟩ := h1.cells
  by_cases hE : 4096 ≤ R.length
  · have hE' : (4096 : Int) ≤ (n : Int) := by omega
    have H1 := Lib.hid (And.intro h1 b1)
    clear h1 x1 b1 h hs hown
    unfold RAddPost
    go_enter Try.func63, Try.ntmps63
    go_wp2
    go_ret2
    exact .inl ⟨hE, rfl, ⟨_, H1.out.1⟩, H1.out.2⟩
  · have hE' : ¬ (4096 : Int) ≤ (n : Int) := by omega
    have hwr : IntKind.i64.wrap ((d : Int) + 1) = (d : Int) + 1 := IntWalk.i64_in _ (by omega)
    have hrs : rb < w.heap.size := h.box.lt
    have s1 : B ≤ w1.heap.size := Nat.le_trans hB b1.size
    obtain ⟨w2, hw2⟩ : ∃ w2, w1.setCell ⟨rb, 1, none⟩ (.int .i64 ((d : Int) + 1)) = w2 := ⟨_, rfl⟩
    have g2 : w1.grownBy w2 (some rb) := hw2 ▸ setCell_grown _ _ _ _
    have bx2 : Box w2 rb 47 #[.slice A n c, .int .i64 ((d : Int) + 1)] := hw2 ▸ h1.box.set_ 1 (.int .i64 ((d : Int) + 1))
    have k2 : KeptR B w w2 := hw2 ▸ (KeptR.of b1 hB).trans (KeptR.setBox h1.box h.rB s1)
    have x2 : Box w2 w.heap.size 26 #[.int .i64 L.kind, .int .i64 L.frm, .int .i64 L.to, .int .i64 L.a, .int .i64 L.b, .int .i64 L.c, .int .i64 L.d, .string L.s, .string L.t, .slice Ap L.ps.length cp, .slice Ai L.is.length ci, .int .i64 L.code, .bool L.yes, .string L.body] := x1.grown g2 (fun e => by injection e with e; omega)
    have o1 := own_belowN hown b1
    have o2 : w2.ownsRow B 59 15 (.slice A n c) n (snCells R) := own_grownT o1 g2 (own_box_ne o1 h1.box sn_types.1)
    have s2 : B ≤ w2.heap.size := Nat.le_trans s1 g2.size
    obtain ⟨en, hen⟩ : ∃ en : NEn, (⟨(d : Int) + 1, Ap, cp, Ai, ci, L⟩ : NEn) = en := ⟨_, rfl⟩
    have HF : Hid (∀ wx, Below w2.heap.size w2 wx → (Box wx rb 47 #[.slice A n c, .int .i64 ((d : Int) + 1)] ∧ wx.ownsRow B 59 15 (.slice A n c) n (snCells R)) ∧ KeptR B w wx ∧ B ≤ wx.heap.size) := Lib.hid fun wx hx => ⟨⟨bx2.below hx bx2.lt, own_belowN o2 hx⟩, k2.trans (KeptR.of hx s2), Nat.le_trans s2 hx.size⟩
    have bD : Below w2.heap.size w2 w2.drew := (Below.refl _ _).drew
    obtain ⟨wL, hwL⟩ : ∃ wL, w2.alloc (.cells #[.int .i64 ((d : Int) + 1), .int .i64 L.kind, .int .i64 L.frm, .int .i64 L.to, .int .i64 L.a, .int .i64 L.b, .int .i64 L.c, .int .i64 L.d, .string L.s, .string L.t, .slice Ap L.ps.length cp, .slice Ai L.is.length ci, .int .i64 L.code, .bool L.yes, .string L.body] 59) = wL := ⟨_, rfl⟩
    have b5 : Below w2.heap.size w2 (w2.drew.alloc (.cells #[.int .i64 ((d : Int) + 1), .int .i64 L.kind, .int .i64 L.frm, .int .i64 L.to, .int .i64 L.a, .int .i64 L.b, .int .i64 L.c, .int .i64 L.d, .string L.s, .string L.t, .slice Ap L.ps.length cp, .slice Ai L.is.length ci, .int .i64 L.code, .bool L.yes, .string L.body] 59)) := (Below.refl w2.heap.size w2).drew.alloc (Nat.le_refl _) _
    have b7 : Below w2.heap.size w2 (w2.alloc (.cells #[.int .i64 ((d : Int) + 1), .int .i64 L.kind, .int .i64 L.frm, .int .i64 L.to, .int .i64 L.a, .int .i64 L.b, .int .i64 L.c, .int .i64 L.d, .string L.s, .string L.t, .slice Ap L.ps.length cp, .slice Ai L.is.length ci, .int .i64 L.code, .bool L.yes, .string L.body] 59)) := below_box _
    have b6 := b7.drew
    have HBOa := Lib.hid (HF.out _ b5)
    have HBOb := Lib.hid (HF.out _ b6)
    have HLita : Hid (Has (w2.drew.alloc (.cells #[.int .i64 ((d : Int) + 1), .int .i64 L.kind, .int .i64 L.frm, .int .i64 L.to, .int .i64 L.a, .int .i64 L.b, .int .i64 L.c, .int .i64 L.d, .string L.s, .string L.t, .slice Ap L.ps.length cp, .slice Ai L.is.length ci, .int .i64 L.code, .bool L.yes, .string L.body] 59)) (w2.drew.heap.size + 1) (some ⟨w2.drew.heap.size, 0, none⟩) (1 * 15) (snCells [en])) := Lib.hid (by subst hen; exact sn_lit w2.drew ⟨(d : Int) + 1, Ap, cp, Ai, ci, L⟩)
    have HLitb : Hid (Has (w2.alloc (.cells #[.int .i64 ((d : Int) + 1), .int .i64 L.kind, .int .i64 L.frm, .int .i64 L.to, .int .i64 L.a, .int .i64 L.b, .int .i64 L.c, .int .i64 L.d, .string L.s, .string L.t, .slice Ap L.ps.length cp, .slice Ai L.is.length ci, .int .i64 L.code, .bool L.yes, .string L.body] 59)) (w2.heap.size + 1) (some ⟨w2.heap.size, 0, none⟩) (1 * 15) (snCells [en])) := Lib.hid (by subst hen; exact sn_lit w2 ⟨(d : Int) + 1, Ap, cp, Ai, ci, L⟩)
    have y0 : w2.cell? ⟨rb, 0, none⟩ = some (.slice A n c) := bx2.cell 0
    have y0p : (w2.alloc (.cells #[.int .i64 ((d : Int) + 1), .int .i64 L.kind, .int .i64 L.frm, .int .i64 L.to, .int .i64 L.a, .int .i64 L.b, .int .i64 L.c, .int .i64 L.d, .string L.s, .string L.t, .slice Ap L.ps.length cp, .slice Ai L.is.length ci, .int .i64 L.code, .bool L.yes, .string L.body] 59)).cell? ⟨rb, 0, none⟩ = some (.slice A n c) := (HF.out _ b7).1.1.cell 0
    have y1 : w2.cell? ⟨rb, 1, none⟩ = some (.int .i64 ((d : Int) + 1)) := bx2.cell 1
    obtain ⟨⟨x0, x1, x2, x3, x4, x5, x6⟩, ⟨x7, x8⟩, ⟨x9, x10⟩, ⟨x11, x12, x13⟩⟩ := let_cells x2
    have Hone := Lib.hid (snCells_one [en])
    have HH := Lib.hid (And.intro h (And.intro hC (And.intro hB hn)))
    have Hr : Hid (HasLps w C en.Ap en.L.ps.length en.L.ps ∧ HasLis w C en.Ai en.L.is.length en.L.is) := Lib.hid (by subst hen; exact hr)
    have Hen : Hid (en.n = ((d + 1 : Nat) : Int) ∧ en.L = L) := Lib.hid (by subst hen; exact ⟨rfl, rfl⟩)
    have HEl := Lib.hid hE
    clear b5 b6 b7 bD k2 bx2 g2 h1 b1 h hs hown o1 o2 hr hE hen hwL
    unfold RAddPost
    go_enter Try.func63, Try.ntmps63
    go_wp2
    go_region_law (first | (refine step_append_hasN (by rfl) _ _ _ (by rfl) 59 sn_elem (by omega) Try.underlying45 (by rfl) HBOa.out.1.2 (by rfl) HLita.out Hone.out (by simp only [maxLen]; omega) (by omega) HBOa.out.2.2 ?_; intro v7 w7 o7 g7 z7; obtain ⟨A7, c7, rfl, -, -, -⟩ := own_sliceN o7; obtain ⟨y7, u7, r7, h8⟩ := radd_end HH.out.1 HH.out.2.1 HH.out.2.2.1 HH.out.2.2.2 HBOa.out.2.1 HBOa.out.1.1 HBOa.out.1.2 o7 g7 Hr.out; have H8 := Lib.hid h8; clear o7 g7 z7 h8) | (refine step_append_hasN (by rfl) _ _ _ (by rfl) 59 sn_elem (by omega) Try.underlying45 (by rfl) HBOb.out.1.2 (by rfl) HLitb.out Hone.out (by simp only [maxLen]; omega) (by omega) HBOb.out.2.2 ?_; intro v7 w7 o7 g7 z7; obtain ⟨A7, c7, rfl, -, -, -⟩ := own_sliceN o7; obtain ⟨y7, u7, r7, h8⟩ := radd_end HH.out.1 HH.out.2.1 HH.out.2.2.1 HH.out.2.2.2 HBOb.out.2.1 HBOb.out.1.1 HBOb.out.1.2 o7 g7 Hr.out; have H8 := Lib.hid h8; clear o7 g7 z7 h8))
    all_goals
      go_wp2
      go_ret2
      exact .inr ⟨by have := HEl.out; omega, en, _, Hen.out.1, Hen.out.2, rfl, H8.out.1, H8.out.2⟩
end
end Go.Proofs.Ytabcoidjbigdbaa

namespace Go.Proofs.Ytabcoidjbigdbaa
open Go.RowKit

section
variable {w w1 : World} {B C rb d n c : Nat} {v : Value} {R : List NEn} {A : Option Addr}
theorem RAddPost.from {L : Let} {e : Ending} {w' : World} (hB : B ≤ w.heap.size) (hb : Below w.heap.size w w1) (h : RAddPost B C rb R d L w1 e w') : RAddPost B C rb R d L w e w' := by
  rcases h with ⟨h1, h2, h3, h4⟩ | ⟨h1, en, v, h2, h3, h4, h5, h6⟩
  · exact .inl ⟨h1, h2, h3, hb.trans (h4.mono hb.size)⟩
  · exact .inr ⟨h1, en, v, h2, h3, h4, h5, (KeptR.of hb hB).trans h6⟩
def RTwicePost (B C rb : Nat) (R : List NEn) (d : Nat) (k : Int) (w : World) (e : Ending) (w' : World) : Prop :=
  ((∀ p ∈ R, p.n ≠ k) ∧ e = .returned (.tuple #[.int .i64 0, .int .i64 7]) ∧ (∃ v, RNet w' B C rb v R d) ∧ Below w.heap.size w w') ∨
  (∃ (i : Nat) (p : NEn), R[i]? = some p ∧ p.n = k ∧ RAddPost B C rb R d p.L w e w')
set_option maxRecDepth 100000 in
set_option maxHeartbeats 6400000 in
theorem refTwice_any (h : RNet w B C rb v R d) (hC : C ≤ B) (hB : B ≤ w.heap.size) (hd : d ≤ 100000000000) (hR : R.length ≤ 100000) (k : Int) :
    Calls Try.prog 28 #[.pointer (some ⟨rb, 0, none⟩), .int .i64 k] w (RTwicePost B C rb R d k w) := by
  have Hat := Lib.hid (refAt_any h hR k)
  have H := Lib.hid h
  have HP := Lib.hid (And.intro hC (And.intro hB hd))
  obtain ⟨q0, -, -, -⟩ := h.cells
  obtain ⟨A, c, rfl, -, -, hs⟩ := h.own.slice
  obtain ⟨n, hn⟩ : ∃ n, R.length = n := ⟨_, rfl⟩
  rw [hn] at hR hs q0
  have Hs := Lib.hid hs
  have Hn := Lib.hid hn
  clear h hs hn hC hB hd
  unfold AtPost at Hat
  unfold RTwicePost
  go_enter Try.func28, Try.ntmps28
  go_wp2_with fail
  refine Hat.out.mono ?_
  rintro e w1 ⟨rfl, hp⟩
  rcases hp with ⟨rfl, hp⟩ | ⟨i, p, rfl, hi, hk, -⟩
  · have HE := Lib.hid hp
    clear hp
    go_wp2
    go_ret2
    exact .inl ⟨HE.out, rfl, ⟨_, H.out⟩, Below.refl _ _⟩
  · have hin : i < n := by have := (List.getElem?_eq_some_iff.1 hi).1; have := Hn.out; omega
    obtain ⟨a, y, rfl, hab, hy, c0, cc⟩ := Hs.out.at_ hin
    obtain rfl : y = p := by rw [hi] at hy; exact (Option.some.inj hy).symm
    obtain ⟨yn, Ap, cp, Ai, ci, L⟩ := y
    simp only at c0 cc hk
    obtain ⟨c1, c2, c3, c4, c5, c6, c7, c8, c9, c10, c11, c12, c13, c14⟩ := cc
    have Hi := Lib.hid (And.intro hi hk)
    have Hadd := Lib.hid (refAdd_any H.out HP.out.1 HP.out.2.1 HP.out.2.2 L Ap cp Ai ci (H.out.rows _ (List.mem_of_getElem? hi)))
    have hk0 : (0 : Int) ≤ (i : Int) := by omega
    have hk1 : (i : Int) < (n : Int) := by omega
    have hk2 : ¬ (i : Int) < 0 := by omega
    clear hi hk hy hab c0 Hat
    go_wp2_with fail
    refine Hadd.out.mono ?_
    rintro e w3 hq
    clear Hadd c1 c2 c3 c4 c5 c6 c7 c8 c9 c10 c11 c12 c13 c14 q0
    rcases hq with ⟨h1, rfl, h3, h4⟩ | ⟨h1, en, v', h2, h3, rfl, h5, h6⟩
    · have HE := Lib.hid (And.intro h1 (And.intro h3 h4))
      clear h1 h3 h4
      go_wp2
      go_ret2
      exact .inr ⟨i, _, Hi.out.1, Hi.out.2, .inl ⟨HE.out.1, rfl, HE.out.2.1, HE.out.2.2⟩⟩
    · have HE := Lib.hid (And.intro h1 (And.intro h2 (And.intro h3 (And.intro h5 h6))))
      clear h1 h2 h3 h5 h6
      go_wp2
      go_ret2
      exact .inr ⟨i, _, Hi.out.1, Hi.out.2, .inr ⟨HE.out.1, en, v', HE.out.2.1, HE.out.2.2.1, rfl, HE.out.2.2.2.1, HE.out.2.2.2.2⟩⟩
def RSendPost (B C rb : Nat) (R : List NEn) (d : Nat) (L : Let) (w : World) (e : Ending) (w' : World) : Prop :=
  (L.err ≠ 0 ∧ e = .returned (.tuple #[.int .i64 0, .int .i64 L.err]) ∧ (∃ v, RNet w' B C rb v R d) ∧ Below w.heap.size w w') ∨ (L.err = 0 ∧ RAddPost B C rb R d L w e w')
set_option maxRecDepth 100000 in
set_option maxHeartbeats 6400000 in
theorem refSend_any (h : RNet w B C rb v R d) (hC : C ≤ B) (hB : B ≤ w.heap.size) (hd : d ≤ 100000000000) (L : Let) (Ap : Option Addr) (cp : Nat) (Ai : Option Addr) (ci : Nat) (hr : HasLps w C Ap L.ps.length L.ps ∧ HasLis w C Ai L.is.length L.is)
    (hn : L.ps.length ≤ maxLen ∧ L.is.length ≤ maxLen) (ht : ∀ s ∈ L.txts, s.size ≤ 140737488355328) (htp : ∀ p ∈ L.ps, p.k.size ≤ 140737488355328 ∧ p.v.size ≤ 140737488355328) (hti : ∀ p ∈ L.is, p.e.size ≤ 140737488355328) :
    Calls Try.prog 23 #[.pointer (some ⟨rb, 0, none⟩), .agg #[.int .i64 L.kind, .int .i64 L.frm, .int .i64 L.to, .int .i64 L.a, .int .i64 L.b, .int .i64 L.c, .int .i64 L.d, .string L.s, .string L.t, .slice Ap L.ps.length cp, .slice Ai L.is.length ci, .int .i64 L.code, .bool L.yes, .string L.body]] w (RSendPost B C rb R d L w) := by
  obtain ⟨w1, hw1⟩ : ∃ w1, (w.alloc (.cells #[.int .i64 L.kind, .int .i64 L.frm, .int .i64 L.to, .int .i64 L.a, .int .i64 L.b, .int .i64 L.c, .int .i64 L.d, .string L.s, .string L.t, .slice Ap L.ps.length cp, .slice Ai L.is.length ci, .int .i64 L.code, .bool L.yes, .string L.body] 26)) = w1 := ⟨_, rfl⟩
  have b1 : Below w.heap.size w w1 := hw1 ▸ below_box _
  have x1 : Box w1 w.heap.size 26 #[.int .i64 L.kind, .int .i64 L.frm, .int .i64 L.to, .int .i64 L.a, .int .i64 L.b, .int .i64 L.c, .int .i64 L.d, .string L.s, .string L.t, .slice Ap L.ps.length cp, .slice Ai L.is.length ci, .int .i64 L.code, .bool L.yes, .string L.body] := hw1 ▸ Box.made _ _ _
  have hCw := Nat.le_trans hC hB
  have Hck := Lib.hid (refLetPack_any L Ap L.ps.length cp Ai L.is.length ci C w1 (hr.1.belowOf b1 hCw) (hr.2.belowOf b1 hCw) (Nat.le_trans hCw b1.size) hn ht htp hti)
  unfold LetPackPost at Hck
  have HN : Hid (∀ wx, Below w.heap.size w wx → RNet wx B C rb v R d) := Lib.hid fun wx hx => h.below hCw hx
  have HAdd : Hid (∀ wx, Below w.heap.size w wx → Calls Try.prog 63 #[.pointer (some ⟨rb, 0, none⟩), .agg #[.int .i64 L.kind, .int .i64 L.frm, .int .i64 L.to, .int .i64 L.a, .int .i64 L.b, .int .i64 L.c, .int .i64 L.d, .string L.s, .string L.t, .slice Ap L.ps.length cp, .slice Ai L.is.length ci, .int .i64 L.code, .bool L.yes, .string L.body]] wx (RAddPost B C rb R d L wx)) := Lib.hid fun wx hx =>
    refAdd_any (h.below hCw hx) hC (Nat.le_trans hB hx.size) hd L Ap cp Ai ci ⟨hr.1.belowOf hx hCw, hr.2.belowOf hx hCw⟩
  have HX : Hid (∀ wx, Below w1.heap.size w1 wx → Below w.heap.size w wx ∧ Box wx w.heap.size 26 #[.int .i64 L.kind, .int .i64 L.frm, .int .i64 L.to, .int .i64 L.a, .int .i64 L.b, .int .i64 L.c, .int .i64 L.d, .string L.s, .string L.t, .slice Ap L.ps.length cp, .slice Ai L.is.length ci, .int .i64 L.code, .bool L.yes, .string L.body]) := Lib.hid fun wx hx => ⟨b1.trans (hx.mono b1.size), x1.below hx x1.lt⟩
  have HBs := Lib.hid hB
  obtain ⟨⟨x0, x2, x3, x4, x5, x6, x7⟩, ⟨x8, x9⟩, ⟨x10, x11⟩, ⟨x12, x13, x14⟩⟩ := let_cells x1
  clear h hB hd hr hn ht htp hti b1 x1 hCw hC
  obtain ⟨z, hz⟩ : ∃ z, L.err = z := ⟨_, rfl⟩
  have Hz := Lib.hid hz
  obtain ⟨sv, hsv⟩ : ∃ sv : ByteArray, ⟨L.packed.toArray⟩ = sv := ⟨_, rfl⟩
  rw [hsv, hz] at Hck
  clear hz hsv
  go_enter Try.func23, Try.ntmps23
  go_wp2_with fail
  refine Hck.out.mono ?_
  rintro e w2 ⟨rfl, b2⟩
  have H2 := Lib.hid (HX.out w2 b2)
  clear x0 x2 x3 x4 x5 x6 x7 x8 x9 x10 x11 x12 x13 x14 b2 Hck
  by_cases h0 : z = 0
  · subst h0
    obtain ⟨⟨x0, x2, x3, x4, x5, x6, x7⟩, ⟨x8, x9⟩, ⟨x10, x11⟩, ⟨x12, x13, x14⟩⟩ := let_cells H2.out.2
    have Hadd := Lib.hid (HAdd.out w2 H2.out.1)
    clear HAdd
    go_wp2_with fail
    refine Hadd.out.mono ?_
    rintro e w3 hp
    have hq := RAddPost.from HBs.out H2.out.1 hp
    clear hp Hadd x0 x2 x3 x4 x5 x6 x7 x8 x9 x10 x11 x12 x13 x14
    rcases hq with ⟨h1, rfl, h3, h4⟩ | ⟨h1, en, v', h2, h3, rfl, h5, h6⟩
    · have HE := Lib.hid (And.intro h1 (And.intro h3 h4))
      clear h1 h3 h4
      go_wp2
      go_ret2
      exact .inr ⟨Hz.out, .inl ⟨HE.out.1, rfl, HE.out.2.1, HE.out.2.2⟩⟩
    · have HE := Lib.hid (And.intro h1 (And.intro h2 (And.intro h3 (And.intro h5 h6))))
      clear h1 h2 h3 h5 h6
      go_wp2
      go_ret2
      exact .inr ⟨Hz.out, .inr ⟨HE.out.1, en, v', HE.out.2.1, HE.out.2.2.1, rfl, HE.out.2.2.2.1, HE.out.2.2.2.2⟩⟩
  · have hb0 : (z != 0) = true := by simpa using h0
    have HE := Lib.hid (And.intro h0 (And.intro (HN.out w2 H2.out.1) H2.out.1))
    clear h0
    go_wp2
    go_ret2
    exact .inl ⟨fun e => HE.out.1 (Hz.out.symm.trans e), congrArg (fun q => Ending.returned (.tuple #[.int .i64 0, .int .i64 q])) Hz.out.symm, ⟨_, HE.out.2.1⟩, HE.out.2.2⟩
end
end Go.Proofs.Ytabcoidjbigdbaa

namespace Go.Proofs.Ytabcoidjbigdbaa
open Go.RowKit

theorem KeptR.new {w w6 W : World} {B g : Nat} (k : KeptR B w w6) (gW : w6.grownBy W (some g)) (hg : w.heap.size ≤ g) (hB : B ≤ w.heap.size) : KeptR B w W :=
  ⟨k.below.grown gW (Nat.le_trans hB k.below.size) (fun q hq => by injection hq with hq; omega), fun i o ho hn => by
    have hi := (Array.getElem?_eq_some_iff.1 ho).1
    have := k.below.size
    exact (gW.block i (by omega) (fun e => by injection e with e; omega)).trans (k.typed i o ho hn)⟩
theorem sn_letter : (59 : TypeId) ≠ 26 := by decide
/-- letters from place k on -/
theorem sns_from {w : World} {B N c k : Nat} {a : Addr} {R : List NEn} (h : Has w B (some a) (N * 15) (snCells R)) (hl : R.length = N) (hk : k ≤ N) : (c = k → N ≤ c → Has w B (some a) ((N - k) * 15) (snCells (R.drop k))) ∧ (Has w B (some (a.add (k * 15))) ((N - k) * 15) (snCells (R.drop k))) := by
  rw [← snCells_drop R k, Nat.sub_mul]
  rcases Nat.lt_or_ge k N with hlt | hge
  · exact ⟨fun e1 e2 => by omega, Has.drop h (by omega)⟩
  · have e : (snCells R).drop (k * 15) = [] := List.drop_eq_nil_of_le (by rw [snCells_len]; omega)
    rw [e, show N * 15 - k * 15 = 0 by omega]
    exact ⟨fun _ _ => Has.nil _ _ _, Has.nil _ _ _⟩
def RDelPost (B C rb : Nat) (R : List NEn) (d : Nat) (k : Int) (w : World) (e : Ending) (w' : World) : Prop :=
  ((∀ p ∈ R, p.n ≠ k) ∧ e = .returned (.tuple #[.agg #[.int .i64 0, .int .i64 0, .int .i64 0, .int .i64 0, .int .i64 0, .int .i64 0, .int .i64 0, .string ⟨#[]⟩, .string ⟨#[]⟩, .slice none 0 0, .slice none 0 0, .int .i64 0, .bool false, .string ⟨#[]⟩], .int .i64 7]) ∧ (∃ v, RNet w' B C rb v R d) ∧ Below w.heap.size w w') ∨
  (∃ (i : Nat) (p : NEn) (v : Value), R[i]? = some p ∧ p.n = k ∧ e = .returned (.tuple #[.agg #[.int .i64 p.L.kind, .int .i64 p.L.frm, .int .i64 p.L.to, .int .i64 p.L.a, .int .i64 p.L.b, .int .i64 p.L.c, .int .i64 p.L.d, .string p.L.s, .string p.L.t, .slice p.Ap p.L.ps.length p.cp, .slice p.Ai p.L.is.length p.ci, .int .i64 p.L.code, .bool p.L.yes, .string p.L.body], .int .i64 0]) ∧ RNet w' B C rb v (R.take i ++ R.drop (i + 1)) d ∧ KeptR B w w')
section
variable {w : World} {B C rb d n c : Nat} {v : Value} {R : List NEn} {A : Option Addr}
theorem rdel_mid {w3 x1 x5 : World} {Aa Ab : Option Addr} {ca cb i m : Nat} {L : Let} {Ap : Option Addr} {cp : Nat} {Ai : Option Addr} {ci : Nat} (h : RNet w B C rb (.slice A n c) R d) (hC : C ≤ B) (hB : B ≤ w.heap.size) (b3 : Below w.heap.size w w3) (r3 : RNet w3 B C rb (.slice A n c) R d) (y3 : Box w3 (w.heap.size + 1) 26 #[.int .i64 L.kind, .int .i64 L.frm, .int .i64 L.to, .int .i64 L.a, .int .i64 L.b, .int .i64 L.c, .int .i64 L.d, .string L.s, .string L.t, .slice Ap L.ps.length cp, .slice Ai L.is.length ci, .int .i64 L.code, .bool L.yes, .string L.body]) (z3 : Box w3 w.heap.size 26 #[.int .i64 0, .int .i64 0, .int .i64 0, .int .i64 0, .int .i64 0, .int .i64 0, .int .i64 0, .string ⟨#[]⟩, .string ⟨#[]⟩, .slice none 0 0, .slice none 0 0, .int .i64 0, .bool false, .string ⟨#[]⟩])
    (b1 : Below w3.heap.size w3 x1) (o1 : x1.ownsRow B 59 15 (.slice Aa i ca) i (snCells (R.take i))) (g5 : x1.grownBy x5 (Value.slice Aa i ca).ownBlock) (o5 : x5.ownsRow B 59 15 (.slice Ab m cb) m (snCells (R.take i) ++ snCells (R.drop (i + 1)))) (hm : (R.take i ++ R.drop (i + 1)).length = m) :
    ∃ w6 W, x5.setCell ⟨rb, 0, none⟩ (.slice Ab m cb) = w6 ∧ ((((((((((((((w6.setCell ⟨w.heap.size, 0, none⟩ (.int .i64 L.kind)).setCell ⟨w.heap.size, 1, none⟩ (.int .i64 L.frm)).setCell ⟨w.heap.size, 2, none⟩ (.int .i64 L.to)).setCell ⟨w.heap.size, 3, none⟩ (.int .i64 L.a)).setCell ⟨w.heap.size, 4, none⟩ (.int .i64 L.b)).setCell ⟨w.heap.size, 5, none⟩ (.int .i64 L.c)).setCell ⟨w.heap.size, 6, none⟩ (.int .i64 L.d)).setCell ⟨w.heap.size, 7, none⟩ (.string L.s)).setCell ⟨w.heap.size, 8, none⟩ (.string L.t)).setCell ⟨w.heap.size, 9, none⟩ (.slice Ap L.ps.length cp)).setCell ⟨w.heap.size, 10, none⟩ (.slice Ai L.is.length ci)).setCell ⟨w.heap.size, 11, none⟩ (.int .i64 L.code)).setCell ⟨w.heap.size, 12, none⟩ (.bool L.yes)).setCell ⟨w.heap.size, 13, none⟩ (.string L.body)) = W ∧ x5.cell? ⟨rb, 0, none⟩ = some (.slice A n c) ∧ x5.frozen? ⟨rb, 0, none⟩ = false ∧ Box w6 (w.heap.size + 1) 26 #[.int .i64 L.kind, .int .i64 L.frm, .int .i64 L.to, .int .i64 L.a, .int .i64 L.b, .int .i64 L.c, .int .i64 L.d, .string L.s, .string L.t, .slice Ap L.ps.length cp, .slice Ai L.is.length ci, .int .i64 L.code, .bool L.yes, .string L.body] ∧ Box w6 w.heap.size 26 #[.int .i64 0, .int .i64 0, .int .i64 0, .int .i64 0, .int .i64 0, .int .i64 0, .int .i64 0, .string ⟨#[]⟩, .string ⟨#[]⟩, .slice none 0 0, .slice none 0 0, .int .i64 0, .bool false, .string ⟨#[]⟩] ∧ Box W w.heap.size 26 #[.int .i64 L.kind, .int .i64 L.frm, .int .i64 L.to, .int .i64 L.a, .int .i64 L.b, .int .i64 L.c, .int .i64 L.d, .string L.s, .string L.t, .slice Ap L.ps.length cp, .slice Ai L.is.length ci, .int .i64 L.code, .bool L.yes, .string L.body] ∧ RNet W B C rb (.slice Ab m cb) (R.take i ++ R.drop (i + 1)) d ∧ KeptR B w W := by
  have hrw := h.box.lt
  have l3 := y3.lt
  have s1 : B ≤ x1.heap.size := by have := b3.size; have := b1.size; omega
  have bx1 := r3.box.below b1 r3.box.lt
  have y1 := y3.below b1 y3.lt
  have z1 := z3.below b1 z3.lt
  have bx5 : Box x5 rb 47 #[.slice A n c, .int .i64 d] := bx1.grown g5 (fun e => own_box_ne o1 bx1 sn_types.1 rb e.symm rfl)
  have y5 : Box x5 (w.heap.size + 1) 26 #[.int .i64 L.kind, .int .i64 L.frm, .int .i64 L.to, .int .i64 L.a, .int .i64 L.b, .int .i64 L.c, .int .i64 L.d, .string L.s, .string L.t, .slice Ap L.ps.length cp, .slice Ai L.is.length ci, .int .i64 L.code, .bool L.yes, .string L.body] := y1.grown g5 (fun e => own_box_ne o1 y1 sn_letter _ e.symm rfl)
  have z5 : Box x5 w.heap.size 26 #[.int .i64 0, .int .i64 0, .int .i64 0, .int .i64 0, .int .i64 0, .int .i64 0, .int .i64 0, .string ⟨#[]⟩, .string ⟨#[]⟩, .slice none 0 0, .slice none 0 0, .int .i64 0, .bool false, .string ⟨#[]⟩] := z1.grown g5 (fun e => own_box_ne o1 z1 sn_letter _ e.symm rfl)
  have s5 : B ≤ x5.heap.size := Nat.le_trans s1 g5.size
  obtain ⟨w6, hw6⟩ : ∃ w6, x5.setCell ⟨rb, 0, none⟩ (.slice Ab m cb) = w6 := ⟨_, rfl⟩
  have g6 : x5.grownBy w6 (some rb) := hw6 ▸ setCell_grown _ _ _ _
  have bx6 : Box w6 rb 47 #[.slice Ab m cb, .int .i64 d] := by
    rw [← hw6]
    have h8 := bx5.set_ 0 (.slice Ab m cb)
    simpa using h8
  have y6 := y5.grown g6 (fun e => by injection e with e; omega)
  have z6 := z5.grown g6 (fun e => by injection e with e; omega)
  have k6 : KeptR B w w6 := by
    rw [← hw6]
    exact (((KeptR.of b3 hB).trans (KeptR.of b1 (by have := b3.size; omega))).trans (KeptR.ownRow o1 g5 s1)).trans (KeptR.setBox bx5 h.rB s5)
  obtain ⟨W, hW⟩ : ∃ W, ((((((((((((((w6.setCell ⟨w.heap.size, 0, none⟩ (.int .i64 L.kind)).setCell ⟨w.heap.size, 1, none⟩ (.int .i64 L.frm)).setCell ⟨w.heap.size, 2, none⟩ (.int .i64 L.to)).setCell ⟨w.heap.size, 3, none⟩ (.int .i64 L.a)).setCell ⟨w.heap.size, 4, none⟩ (.int .i64 L.b)).setCell ⟨w.heap.size, 5, none⟩ (.int .i64 L.c)).setCell ⟨w.heap.size, 6, none⟩ (.int .i64 L.d)).setCell ⟨w.heap.size, 7, none⟩ (.string L.s)).setCell ⟨w.heap.size, 8, none⟩ (.string L.t)).setCell ⟨w.heap.size, 9, none⟩ (.slice Ap L.ps.length cp)).setCell ⟨w.heap.size, 10, none⟩ (.slice Ai L.is.length ci)).setCell ⟨w.heap.size, 11, none⟩ (.int .i64 L.code)).setCell ⟨w.heap.size, 12, none⟩ (.bool L.yes)).setCell ⟨w.heap.size, 13, none⟩ (.string L.body)) = W := ⟨_, rfl⟩
  obtain ⟨zW, gW, -⟩ := store14 z6 hW
  have kW := k6.new gW (Nat.le_refl _) hB
  have o6 := own_grownT o5 g6 (own_box_ne o5 bx5 sn_types.1)
  refine ⟨w6, W, hw6, hW, bx5.cell 0, bx5.frozen 0, y6, z6, zW, ⟨h.rB, bx6.grown gW (fun e => by injection e with e; omega), ?_, fun p hp => ?_⟩, kW⟩
  · unfold OwnSns
    rw [hm, snCells_app]
    exact own_grownT o6 gW (own_box_ne o6 z6 sn_letter)
  · have hp' : p ∈ R := by
      rcases List.mem_append.1 hp with hp | hp
      · exact List.mem_of_mem_take hp
      · exact List.mem_of_mem_drop hp
    exact ⟨(h.rows p hp').1.belowOf kW.below hC, (h.rows p hp').2.belowOf kW.below hC⟩
theorem own_eqS {w : World} {B m m' : Nat} {v : Value} {xs xs' : List Value} (h : w.ownsRow B 59 15 v m xs) (hm : m = m') (hx : xs = xs') : w.ownsRow B 59 15 v m' xs' := by
  subst hm
  subst hx
  exact h
theorem del_len {R : List NEn} {i n : Nat} (hn : R.length = n) (hi : i < n) : (R.take i ++ R.drop (i + 1)).length = i + (n - (i + 1)) := by
  rw [List.length_append, List.length_take, List.length_drop]
  omega
set_option maxRecDepth 100000 in
set_option maxHeartbeats 12800000 in
theorem refDeliver_any (h : RNet w B C rb v R d) (hC : C ≤ B) (hB : B ≤ w.heap.size) (hR : R.length ≤ 100000) (k : Int) :
    Calls Try.prog 25 #[.pointer (some ⟨rb, 0, none⟩), .int .i64 k] w (RDelPost B C rb R d k w) := by
  have hCw := Nat.le_trans hC hB
  have b0 := below_box (w := w) (.cells #[.int .i64 0, .int .i64 0, .int .i64 0, .int .i64 0, .int .i64 0, .int .i64 0, .int .i64 0, .string ⟨#[]⟩, .string ⟨#[]⟩, .slice none 0 0, .slice none 0 0, .int .i64 0, .bool false, .string ⟨#[]⟩] 26)
  have z0 := Box.made w 26 #[.int .i64 0, .int .i64 0, .int .i64 0, .int .i64 0, .int .i64 0, .int .i64 0, .int .i64 0, .string ⟨#[]⟩, .string ⟨#[]⟩, .slice none 0 0, .slice none 0 0, .int .i64 0, .bool false, .string ⟨#[]⟩]
  have h0 := h.below hCw b0
  have lt0 := z0.lt
  have Hat := Lib.hid (refAt_any h0 hR k)
  have H := Lib.hid h
  have HP := Lib.hid (And.intro hC hB)
  obtain ⟨q0, -, -, -⟩ := h0.cells
  obtain ⟨A, c, rfl, hnc, hcm, hs⟩ := h0.own.slice
  obtain ⟨n, hn⟩ : ∃ n, R.length = n := ⟨_, rfl⟩
  rw [hn] at hR hs q0 hnc h h0 H
  have Hs := Lib.hid hs
  have Hn := Lib.hid hn
  unfold AtPost at Hat
  unfold RDelPost
  have H0 := Lib.hid (And.intro h0 (And.intro b0 z0))
  clear h h0 hs hn hC hB b0 hCw
  go_enter Try.func25, Try.ntmps25
  go_wp2_with fail
  refine Hat.out.mono ?_
  rintro e w1 ⟨hw1, hp⟩
  subst hw1
  rcases hp with ⟨rfl, hp⟩ | ⟨i, p, rfl, hi, hk, -⟩
  · obtain ⟨w1, hw1⟩ : ∃ w1, (w.alloc (.cells #[.int .i64 0, .int .i64 0, .int .i64 0, .int .i64 0, .int .i64 0, .int .i64 0, .int .i64 0, .string ⟨#[]⟩, .string ⟨#[]⟩, .slice none 0 0, .slice none 0 0, .int .i64 0, .bool false, .string ⟨#[]⟩] 26)) = w1 := ⟨_, rfl⟩
    obtain ⟨W, hW⟩ : ∃ W, ((((((((((((((w1.setCell ⟨w.heap.size, 0, none⟩ (.int .i64 0)).setCell ⟨w.heap.size, 1, none⟩ (.int .i64 0)).setCell ⟨w.heap.size, 2, none⟩ (.int .i64 0)).setCell ⟨w.heap.size, 3, none⟩ (.int .i64 0)).setCell ⟨w.heap.size, 4, none⟩ (.int .i64 0)).setCell ⟨w.heap.size, 5, none⟩ (.int .i64 0)).setCell ⟨w.heap.size, 6, none⟩ (.int .i64 0)).setCell ⟨w.heap.size, 7, none⟩ (.string ⟨#[]⟩)).setCell ⟨w.heap.size, 8, none⟩ (.string ⟨#[]⟩)).setCell ⟨w.heap.size, 9, none⟩ (.slice none 0 0)).setCell ⟨w.heap.size, 10, none⟩ (.slice none 0 0)).setCell ⟨w.heap.size, 11, none⟩ (.int .i64 0)).setCell ⟨w.heap.size, 12, none⟩ (.bool false)).setCell ⟨w.heap.size, 13, none⟩ (.string ⟨#[]⟩)) = W := ⟨_, rfl⟩
    rw [hw1] at z0 q0
    have z1 := z0
    obtain ⟨zW, gW, -⟩ := store14 z1 hW
    obtain ⟨⟨p0, p1, p2, p3, p4, p5, p6⟩, ⟨p7, p8⟩, ⟨p9, p10⟩, ⟨p11, p12, p13⟩⟩ := let_cells (L := zeroLet) zW
    have d0 : w1.cell? ⟨w.heap.size, 0, none⟩ = some (.int .i64 0) := z1.cell 0
    have f0 : w1.frozen? ⟨w.heap.size, 0, none⟩ = false := z1.frozen 0
    have d1 : w1.cell? ⟨w.heap.size, 1, none⟩ = some (.int .i64 0) := z1.cell 1
    have f1 : w1.frozen? ⟨w.heap.size, 1, none⟩ = false := z1.frozen 1
    have d2 : w1.cell? ⟨w.heap.size, 2, none⟩ = some (.int .i64 0) := z1.cell 2
    have f2 : w1.frozen? ⟨w.heap.size, 2, none⟩ = false := z1.frozen 2
    have d3 : w1.cell? ⟨w.heap.size, 3, none⟩ = some (.int .i64 0) := z1.cell 3
    have f3 : w1.frozen? ⟨w.heap.size, 3, none⟩ = false := z1.frozen 3
    have d4 : w1.cell? ⟨w.heap.size, 4, none⟩ = some (.int .i64 0) := z1.cell 4
    have f4 : w1.frozen? ⟨w.heap.size, 4, none⟩ = false := z1.frozen 4
    have d5 : w1.cell? ⟨w.heap.size, 5, none⟩ = some (.int .i64 0) := z1.cell 5
    have f5 : w1.frozen? ⟨w.heap.size, 5, none⟩ = false := z1.frozen 5
    have d6 : w1.cell? ⟨w.heap.size, 6, none⟩ = some (.int .i64 0) := z1.cell 6
    have f6 : w1.frozen? ⟨w.heap.size, 6, none⟩ = false := z1.frozen 6
    have d7 : w1.cell? ⟨w.heap.size, 7, none⟩ = some (.string ⟨#[]⟩) := z1.cell 7
    have f7 : w1.frozen? ⟨w.heap.size, 7, none⟩ = false := z1.frozen 7
    have d8 : w1.cell? ⟨w.heap.size, 8, none⟩ = some (.string ⟨#[]⟩) := z1.cell 8
    have f8 : w1.frozen? ⟨w.heap.size, 8, none⟩ = false := z1.frozen 8
    have d9 : w1.cell? ⟨w.heap.size, 9, none⟩ = some (.slice none 0 0) := z1.cell 9
    have f9 : w1.frozen? ⟨w.heap.size, 9, none⟩ = false := z1.frozen 9
    have d10 : w1.cell? ⟨w.heap.size, 10, none⟩ = some (.slice none 0 0) := z1.cell 10
    have f10 : w1.frozen? ⟨w.heap.size, 10, none⟩ = false := z1.frozen 10
    have d11 : w1.cell? ⟨w.heap.size, 11, none⟩ = some (.int .i64 0) := z1.cell 11
    have f11 : w1.frozen? ⟨w.heap.size, 11, none⟩ = false := z1.frozen 11
    have d12 : w1.cell? ⟨w.heap.size, 12, none⟩ = some (.bool false) := z1.cell 12
    have f12 : w1.frozen? ⟨w.heap.size, 12, none⟩ = false := z1.frozen 12
    have d13 : w1.cell? ⟨w.heap.size, 13, none⟩ = some (.string ⟨#[]⟩) := z1.cell 13
    have f13 : w1.frozen? ⟨w.heap.size, 13, none⟩ = false := z1.frozen 13
    have HE : Hid ((∃ v, RNet W B C rb v R d) ∧ Below w.heap.size w W) := Lib.hid (by
      have b0 := H0.out.2.1
      have h0 := H0.out.1
      rw [hw1] at b0 h0
      have hrb := H.out.box.lt
      refine ⟨⟨_, h0.rB, h0.box.grown gW (fun e => by injection e with e; omega), own_grownT h0.own gW (own_box_ne h0.own z1 sn_letter), fun q hq => ?_⟩, b0.grown gW b0.size (fun g hg => by injection hg with hg; omega)⟩
      have bW := b0.grown gW b0.size (fun g hg => by injection hg with hg; omega)
      exact ⟨(H.out.rows q hq).1.belowOf bW (Nat.le_trans HP.out.1 HP.out.2), (H.out.rows q hq).2.belowOf bW (Nat.le_trans HP.out.1 HP.out.2)⟩)
    have HG := Lib.hid hp
    clear hp zW gW z0 z1 H0 Hat
    go_wp2
    refine bodyPost_ret (v := .tuple #[.agg #[.int .i64 0, .int .i64 0, .int .i64 0, .int .i64 0, .int .i64 0, .int .i64 0, .int .i64 0, .string ⟨#[]⟩, .string ⟨#[]⟩, .slice none 0 0, .slice none 0 0, .int .i64 0, .bool false, .string ⟨#[]⟩], .int .i64 7]) ?_ rfl (.inl ⟨HG.out, rfl, HE.out.1, HE.out.2⟩)
    simp [results, Try.results25, go_sem, p0, p1, p2, p3, p4, p5, p6, p7, p8, p9, p10, p11, p12, p13, zeroLet]
  · have hin : i < n := by have := (List.getElem?_eq_some_iff.1 hi).1; have := Hn.out; omega
    obtain ⟨a, y, rfl, hab, hy, c0, cc⟩ := Hs.out.at_ hin
    obtain rfl : y = p := by rw [hi] at hy; exact (Option.some.inj hy).symm
    obtain ⟨yn, Ap, cp, Ai, ci, L⟩ := y
    simp only at c0 cc hk
    obtain ⟨c1, c2, c3, c4, c5, c6, c7, c8, c9, c10, c11, c12, c13, c14⟩ := cc
    have Hi := Lib.hid (And.intro hi hk)
    obtain ⟨w2, hw2⟩ : ∃ w2, ((w.alloc (.cells #[.int .i64 0, .int .i64 0, .int .i64 0, .int .i64 0, .int .i64 0, .int .i64 0, .int .i64 0, .string ⟨#[]⟩, .string ⟨#[]⟩, .slice none 0 0, .slice none 0 0, .int .i64 0, .bool false, .string ⟨#[]⟩] 26)).alloc (.cells #[.int .i64 0, .int .i64 0, .int .i64 0, .int .i64 0, .int .i64 0, .int .i64 0, .int .i64 0, .string ⟨#[]⟩, .string ⟨#[]⟩, .slice none 0 0, .slice none 0 0, .int .i64 0, .bool false, .string ⟨#[]⟩] 26)) = w2 := ⟨_, rfl⟩
    have b2 : Below (w.alloc (.cells #[.int .i64 0, .int .i64 0, .int .i64 0, .int .i64 0, .int .i64 0, .int .i64 0, .int .i64 0, .string ⟨#[]⟩, .string ⟨#[]⟩, .slice none 0 0, .slice none 0 0, .int .i64 0, .bool false, .string ⟨#[]⟩] 26)).heap.size (w.alloc (.cells #[.int .i64 0, .int .i64 0, .int .i64 0, .int .i64 0, .int .i64 0, .int .i64 0, .int .i64 0, .string ⟨#[]⟩, .string ⟨#[]⟩, .slice none 0 0, .slice none 0 0, .int .i64 0, .bool false, .string ⟨#[]⟩] 26)) w2 := hw2 ▸ below_box _
    have z2 := z0.below b2 lt0
    have y2 : Box w2 (w.heap.size + 1) 26 #[.int .i64 0, .int .i64 0, .int .i64 0, .int .i64 0, .int .i64 0, .int .i64 0, .int .i64 0, .string ⟨#[]⟩, .string ⟨#[]⟩, .slice none 0 0, .slice none 0 0, .int .i64 0, .bool false, .string ⟨#[]⟩] := by
      have := Box.made (w.alloc (.cells #[.int .i64 0, .int .i64 0, .int .i64 0, .int .i64 0, .int .i64 0, .int .i64 0, .int .i64 0, .string ⟨#[]⟩, .string ⟨#[]⟩, .slice none 0 0, .slice none 0 0, .int .i64 0, .bool false, .string ⟨#[]⟩] 26)) 26 #[.int .i64 0, .int .i64 0, .int .i64 0, .int .i64 0, .int .i64 0, .int .i64 0, .int .i64 0, .string ⟨#[]⟩, .string ⟨#[]⟩, .slice none 0 0, .slice none 0 0, .int .i64 0, .bool false, .string ⟨#[]⟩]
      rwa [World.size_alloc, hw2] at this
    obtain ⟨w3, hw3⟩ : ∃ w3, ((((((((((((((w2.setCell ⟨w.heap.size + 1, 0, none⟩ (.int .i64 L.kind)).setCell ⟨w.heap.size + 1, 1, none⟩ (.int .i64 L.frm)).setCell ⟨w.heap.size + 1, 2, none⟩ (.int .i64 L.to)).setCell ⟨w.heap.size + 1, 3, none⟩ (.int .i64 L.a)).setCell ⟨w.heap.size + 1, 4, none⟩ (.int .i64 L.b)).setCell ⟨w.heap.size + 1, 5, none⟩ (.int .i64 L.c)).setCell ⟨w.heap.size + 1, 6, none⟩ (.int .i64 L.d)).setCell ⟨w.heap.size + 1, 7, none⟩ (.string L.s)).setCell ⟨w.heap.size + 1, 8, none⟩ (.string L.t)).setCell ⟨w.heap.size + 1, 9, none⟩ (.slice Ap L.ps.length cp)).setCell ⟨w.heap.size + 1, 10, none⟩ (.slice Ai L.is.length ci)).setCell ⟨w.heap.size + 1, 11, none⟩ (.int .i64 L.code)).setCell ⟨w.heap.size + 1, 12, none⟩ (.bool L.yes)).setCell ⟨w.heap.size + 1, 13, none⟩ (.string L.body)) = w3 := ⟨_, rfl⟩
    obtain ⟨y3, g3, -⟩ := store14 y2 hw3
    have z3 := z2.grown g3 (fun e => by injection e with e; omega)
    have bw2 : Below w.heap.size w w2 := H0.out.2.1.trans (b2.mono (by simp))
    have b3 := bw2.grown g3 bw2.size (fun g hg => by injection hg with hg; omega)
    have r3 := H.out.below (Nat.le_trans HP.out.1 HP.out.2) b3
    have HK := Lib.hid (And.intro b3 (And.intro r3 (And.intro y3 z3)))
    have e0 : w2.cell? ⟨w.heap.size + 1, 0, none⟩ = some (.int .i64 0) := y2.cell 0
    have k0 : w2.frozen? ⟨w.heap.size + 1, 0, none⟩ = false := y2.frozen 0
    have e1 : w2.cell? ⟨w.heap.size + 1, 1, none⟩ = some (.int .i64 0) := y2.cell 1
    have k1 : w2.frozen? ⟨w.heap.size + 1, 1, none⟩ = false := y2.frozen 1
    have e2 : w2.cell? ⟨w.heap.size + 1, 2, none⟩ = some (.int .i64 0) := y2.cell 2
    have k2 : w2.frozen? ⟨w.heap.size + 1, 2, none⟩ = false := y2.frozen 2
    have e3 : w2.cell? ⟨w.heap.size + 1, 3, none⟩ = some (.int .i64 0) := y2.cell 3
    have k3 : w2.frozen? ⟨w.heap.size + 1, 3, none⟩ = false := y2.frozen 3
    have e4 : w2.cell? ⟨w.heap.size + 1, 4, none⟩ = some (.int .i64 0) := y2.cell 4
    have k4 : w2.frozen? ⟨w.heap.size + 1, 4, none⟩ = false := y2.frozen 4
    have e5 : w2.cell? ⟨w.heap.size + 1, 5, none⟩ = some (.int .i64 0) := y2.cell 5
    have k5 : w2.frozen? ⟨w.heap.size + 1, 5, none⟩ = false := y2.frozen 5
    have e6 : w2.cell? ⟨w.heap.size + 1, 6, none⟩ = some (.int .i64 0) := y2.cell 6
    have k6 : w2.frozen? ⟨w.heap.size + 1, 6, none⟩ = false := y2.frozen 6
    have e7 : w2.cell? ⟨w.heap.size + 1, 7, none⟩ = some (.string ⟨#[]⟩) := y2.cell 7
    have k7 : w2.frozen? ⟨w.heap.size + 1, 7, none⟩ = false := y2.frozen 7
    have e8 : w2.cell? ⟨w.heap.size + 1, 8, none⟩ = some (.string ⟨#[]⟩) := y2.cell 8
    have k8 : w2.frozen? ⟨w.heap.size + 1, 8, none⟩ = false := y2.frozen 8
    have e9 : w2.cell? ⟨w.heap.size + 1, 9, none⟩ = some (.slice none 0 0) := y2.cell 9
    have k9 : w2.frozen? ⟨w.heap.size + 1, 9, none⟩ = false := y2.frozen 9
    have e10 : w2.cell? ⟨w.heap.size + 1, 10, none⟩ = some (.slice none 0 0) := y2.cell 10
    have k10 : w2.frozen? ⟨w.heap.size + 1, 10, none⟩ = false := y2.frozen 10
    have e11 : w2.cell? ⟨w.heap.size + 1, 11, none⟩ = some (.int .i64 0) := y2.cell 11
    have k11 : w2.frozen? ⟨w.heap.size + 1, 11, none⟩ = false := y2.frozen 11
    have e12 : w2.cell? ⟨w.heap.size + 1, 12, none⟩ = some (.bool false) := y2.cell 12
    have k12 : w2.frozen? ⟨w.heap.size + 1, 12, none⟩ = false := y2.frozen 12
    have e13 : w2.cell? ⟨w.heap.size + 1, 13, none⟩ = some (.string ⟨#[]⟩) := y2.cell 13
    have k13 : w2.frozen? ⟨w.heap.size + 1, 13, none⟩ = false := y2.frozen 13
    have q3 := r3.box.cell 0
    have Hh3 : Hid (Has w3 w3.heap.size (some a) (n * 15) (snCells R)) := Lib.hid (by
      have h9 := r3.own
      unfold OwnSns at h9
      rw [Hn.out] at h9
      exact Has.of_ownN h9)
    have hB3 : B ≤ w3.heap.size := Nat.le_trans HP.out.2 b3.size
    have Hsrc : Hid (Has w3 w3.heap.size (some a) (i * 15) (snCells (R.take i))) := Lib.hid (by
      rw [← snCells_take R i]
      exact Has.take Hh3.out (by omega))
    have hrl := r3.box.lt
    have HRb : Hid (rb < w3.heap.size) := Lib.hid hrl
    have HmL := Lib.hid (del_len Hn.out hin)
    have Hw3 := Lib.hid hw3
    have j0 : (0 : Int) ≤ (i : Int) := by omega
    have j1 : (i : Int) < (n : Int) := by omega
    have j2 : ¬ (i : Int) < 0 := by omega
    have j3 : (i : Int) ≤ (c : Int) := by omega
    have j4 : (0 : Int) ≤ (i : Int) + 1 := by omega
    have j5 : (((i + 1 : Nat)) : Int) ≤ (n : Int) := by omega
    have j6 : (((i + 1 : Nat)) : Int) ≤ (c : Int) := by omega
    clear hi hk hy hab c0 Hat z0 b2 z2 y2 g3 y3 z3 bw2 b3 r3 hrl H0
    obtain ⟨D, hD⟩ : ∃ D, (if c = i + 1 then some a else some (a.add ((i + 1) * 15))) = D := ⟨_, rfl⟩
    have HD : Hid (∀ wx, Has wx w3.heap.size (some a) (n * 15) (snCells R) → Has wx w3.heap.size D ((n - (i + 1)) * 15) (snCells (R.drop (i + 1)))) := Lib.hid fun wx hx => by
      have h9 := sns_from (c := c) (k := i + 1) hx Hn.out (by omega)
      rw [← hD]
      split
      · rename_i e
        exact h9.1 e hnc
      · exact h9.2
    by_cases hci : c = i + 1
    · rw [if_pos hci] at hD
      subst hD
      go_wp2_with (first
        | (at_builtin; refine wpList_append_hasN rfl (.tmp 23) (.tmp 29) _ rfl 59 sn_elem (by omega) Try.underlying45 rfl (World.ownsRow_nil w3 w3.heap.size 59 15) rfl Hsrc.out (snCells_one _) (by simp only [maxLen]; omega) (by omega) (Nat.le_refl _) ?_; intro v1 x1 ho1 hg1 hz1; have B1 : Hid (Below w3.heap.size w3 x1) := Lib.hid ((Below.refl _ w3).grown hg1 (Nat.le_refl _) (fun g hg => by cases hg)); have O0 : Hid (x1.ownsRow w3.heap.size 59 15 v1 i (snCells (R.take i))) := Lib.hid (own_eqS ho1 (Nat.zero_add _) (List.nil_append _)); have O1 : Hid (x1.ownsRow B 59 15 v1 i (snCells (R.take i))) := Lib.hid (own_baseN O0.out hB3); have qx := (HK.out.2.1.box.below B1.out HRb.out).cell 0; obtain ⟨Aa, ca, rfl, -⟩ := own_sliceN O1.out; have Src := Lib.hid (HD.out x1 (Hh3.out.below B1.out)); have hx1 : B ≤ x1.heap.size := Nat.le_trans hB3 B1.out.size; clear ho1 hg1 hz1)
        | (at_builtin; refine wpList_append_hasN rfl (.tmp 32) (.tmp 39) _ rfl 59 sn_elem (by omega) Try.underlying45 rfl O1.out rfl Src.out (snCells_one _) (by simp only [maxLen]; omega) (by omega) hx1 ?_; intro v5 x5 ho5 hg5 hz5; obtain ⟨Ab, cb, rfl, -⟩ := own_sliceN ho5; obtain ⟨w6, W, hw6, hW, c6, f6, y6, z6, zW, hE⟩ := rdel_mid H.out HP.out.1 HP.out.2 HK.out.1 HK.out.2.1 HK.out.2.2.1 HK.out.2.2.2 B1.out O1.out hg5 ho5 HmL.out; have HE := Lib.hid hE; obtain ⟨⟨x0, xx1, x2, x3, x4, xx5, x6⟩, ⟨x7, x8⟩, ⟨x9, x10⟩, ⟨x11, x12, x13⟩⟩ := let_cells y6; obtain ⟨⟨p0, p1, p2, p3, p4, p5, p6⟩, ⟨p7, p8⟩, ⟨p9, p10⟩, ⟨p11, p12, p13⟩⟩ := let_cells zW; have d0 : w6.cell? ⟨w.heap.size, 0, none⟩ = some (.int .i64 0) := z6.cell 0; have f0 : w6.frozen? ⟨w.heap.size, 0, none⟩ = false := z6.frozen 0; have d1 : w6.cell? ⟨w.heap.size, 1, none⟩ = some (.int .i64 0) := z6.cell 1; have f1 : w6.frozen? ⟨w.heap.size, 1, none⟩ = false := z6.frozen 1; have d2 : w6.cell? ⟨w.heap.size, 2, none⟩ = some (.int .i64 0) := z6.cell 2; have f2 : w6.frozen? ⟨w.heap.size, 2, none⟩ = false := z6.frozen 2; have d3 : w6.cell? ⟨w.heap.size, 3, none⟩ = some (.int .i64 0) := z6.cell 3; have f3 : w6.frozen? ⟨w.heap.size, 3, none⟩ = false := z6.frozen 3; have d4 : w6.cell? ⟨w.heap.size, 4, none⟩ = some (.int .i64 0) := z6.cell 4; have f4 : w6.frozen? ⟨w.heap.size, 4, none⟩ = false := z6.frozen 4; have d5 : w6.cell? ⟨w.heap.size, 5, none⟩ = some (.int .i64 0) := z6.cell 5; have f5 : w6.frozen? ⟨w.heap.size, 5, none⟩ = false := z6.frozen 5; have d6 : w6.cell? ⟨w.heap.size, 6, none⟩ = some (.int .i64 0) := z6.cell 6; have f6 : w6.frozen? ⟨w.heap.size, 6, none⟩ = false := z6.frozen 6; have d7 : w6.cell? ⟨w.heap.size, 7, none⟩ = some (.string ⟨#[]⟩) := z6.cell 7; have f7 : w6.frozen? ⟨w.heap.size, 7, none⟩ = false := z6.frozen 7; have d8 : w6.cell? ⟨w.heap.size, 8, none⟩ = some (.string ⟨#[]⟩) := z6.cell 8; have f8 : w6.frozen? ⟨w.heap.size, 8, none⟩ = false := z6.frozen 8; have d9 : w6.cell? ⟨w.heap.size, 9, none⟩ = some (.slice none 0 0) := z6.cell 9; have f9 : w6.frozen? ⟨w.heap.size, 9, none⟩ = false := z6.frozen 9; have d10 : w6.cell? ⟨w.heap.size, 10, none⟩ = some (.slice none 0 0) := z6.cell 10; have f10 : w6.frozen? ⟨w.heap.size, 10, none⟩ = false := z6.frozen 10; have d11 : w6.cell? ⟨w.heap.size, 11, none⟩ = some (.int .i64 0) := z6.cell 11; have f11 : w6.frozen? ⟨w.heap.size, 11, none⟩ = false := z6.frozen 11; have d12 : w6.cell? ⟨w.heap.size, 12, none⟩ = some (.bool false) := z6.cell 12; have f12 : w6.frozen? ⟨w.heap.size, 12, none⟩ = false := z6.frozen 12; have d13 : w6.cell? ⟨w.heap.size, 13, none⟩ = some (.string ⟨#[]⟩) := z6.cell 13; have f13 : w6.frozen? ⟨w.heap.size, 13, none⟩ = false := z6.frozen 13; clear ho5 hg5 hz5 y6 z6 zW hE))
      refine bodyPost_ret (v := .tuple #[.agg #[.int .i64 L.kind, .int .i64 L.frm, .int .i64 L.to, .int .i64 L.a, .int .i64 L.b, .int .i64 L.c, .int .i64 L.d, .string L.s, .string L.t, .slice Ap L.ps.length cp, .slice Ai L.is.length ci, .int .i64 L.code, .bool L.yes, .string L.body], .int .i64 0]) ?_ rfl (.inr ⟨i, _, _, Hi.out.1, Hi.out.2, rfl, HE.out.1, HE.out.2⟩)
      simp [results, Try.results25, go_sem, p0, p1, p2, p3, p4, p5, p6, p7, p8, p9, p10, p11, p12, p13]
    · rw [if_neg hci] at hD
      subst hD
      go_wp2_with (first
        | (at_builtin; refine wpList_append_hasN rfl (.tmp 23) (.tmp 29) _ rfl 59 sn_elem (by omega) Try.underlying45 rfl (World.ownsRow_nil w3 w3.heap.size 59 15) rfl Hsrc.out (snCells_one _) (by simp only [maxLen]; omega) (by omega) (Nat.le_refl _) ?_; intro v1 x1 ho1 hg1 hz1; have B1 : Hid (Below w3.heap.size w3 x1) := Lib.hid ((Below.refl _ w3).grown hg1 (Nat.le_refl _) (fun g hg => by cases hg)); have O0 : Hid (x1.ownsRow w3.heap.size 59 15 v1 i (snCells (R.take i))) := Lib.hid (own_eqS ho1 (Nat.zero_add _) (List.nil_append _)); have O1 : Hid (x1.ownsRow B 59 15 v1 i (snCells (R.take i))) := Lib.hid (own_baseN O0.out hB3); have qx := (HK.out.2.1.box.below B1.out HRb.out).cell 0; obtain ⟨Aa, ca, rfl, -⟩ := own_sliceN O1.out; have Src := Lib.hid (HD.out x1 (Hh3.out.below B1.out)); have hx1 : B ≤ x1.heap.size := Nat.le_trans hB3 B1.out.size; clear ho1 hg1 hz1)
        | (at_builtin; refine wpList_append_hasN rfl (.tmp 32) (.tmp 39) _ rfl 59 sn_elem (by omega) Try.underlying45 rfl O1.out rfl Src.out (snCells_one _) (by simp only [maxLen]; omega) (by omega) hx1 ?_; intro v5 x5 ho5 hg5 hz5; obtain ⟨Ab, cb, rfl, -⟩ := own_sliceN ho5; obtain ⟨w6, W, hw6, hW, c6, f6, y6, z6, zW, hE⟩ := rdel_mid H.out HP.out.1 HP.out.2 HK.out.1 HK.out.2.1 HK.out.2.2.1 HK.out.2.2.2 B1.out O1.out hg5 ho5 HmL.out; have HE := Lib.hid hE; obtain ⟨⟨x0, xx1, x2, x3, x4, xx5, x6⟩, ⟨x7, x8⟩, ⟨x9, x10⟩, ⟨x11, x12, x13⟩⟩ := let_cells y6; obtain ⟨⟨p0, p1, p2, p3, p4, p5, p6⟩, ⟨p7, p8⟩, ⟨p9, p10⟩, ⟨p11, p12, p13⟩⟩ := let_cells zW; have d0 : w6.cell? ⟨w.heap.size, 0, none⟩ = some (.int .i64 0) := z6.cell 0; have f0 : w6.frozen? ⟨w.heap.size, 0, none⟩ = false := z6.frozen 0; have d1 : w6.cell? ⟨w.heap.size, 1, none⟩ = some (.int .i64 0) := z6.cell 1; have f1 : w6.frozen? ⟨w.heap.size, 1, none⟩ = false := z6.frozen 1; have d2 : w6.cell? ⟨w.heap.size, 2, none⟩ = some (.int .i64 0) := z6.cell 2; have f2 : w6.frozen? ⟨w.heap.size, 2, none⟩ = false := z6.frozen 2; have d3 : w6.cell? ⟨w.heap.size, 3, none⟩ = some (.int .i64 0) := z6.cell 3; have f3 : w6.frozen? ⟨w.heap.size, 3, none⟩ = false := z6.frozen 3; have d4 : w6.cell? ⟨w.heap.size, 4, none⟩ = some (.int .i64 0) := z6.cell 4; have f4 : w6.frozen? ⟨w.heap.size, 4, none⟩ = false := z6.frozen 4; have d5 : w6.cell? ⟨w.heap.size, 5, none⟩ = some (.int .i64 0) := z6.cell 5; have f5 : w6.frozen? ⟨w.heap.size, 5, none⟩ = false := z6.frozen 5; have d6 : w6.cell? ⟨w.heap.size, 6, none⟩ = some (.int .i64 0) := z6.cell 6; have f6 : w6.frozen? ⟨w.heap.size, 6, none⟩ = false := z6.frozen 6; have d7 : w6.cell? ⟨w.heap.size, 7, none⟩ = some (.string ⟨#[]⟩) := z6.cell 7; have f7 : w6.frozen? ⟨w.heap.size, 7, none⟩ = false := z6.frozen 7; have d8 : w6.cell? ⟨w.heap.size, 8, none⟩ = some (.string ⟨#[]⟩) := z6.cell 8; have f8 : w6.frozen? ⟨w.heap.size, 8, none⟩ = false := z6.frozen 8; have d9 : w6.cell? ⟨w.heap.size, 9, none⟩ = some (.slice none 0 0) := z6.cell 9; have f9 : w6.frozen? ⟨w.heap.size, 9, none⟩ = false := z6.frozen 9; have d10 : w6.cell? ⟨w.heap.size, 10, none⟩ = some (.slice none 0 0) := z6.cell 10; have f10 : w6.frozen? ⟨w.heap.size, 10, none⟩ = false := z6.frozen 10; have d11 : w6.cell? ⟨w.heap.size, 11, none⟩ = some (.int .i64 0) := z6.cell 11; have f11 : w6.frozen? ⟨w.heap.size, 11, none⟩ = false := z6.frozen 11; have d12 : w6.cell? ⟨w.heap.size, 12, none⟩ = some (.bool false) := z6.cell 12; have f12 : w6.frozen? ⟨w.heap.size, 12, none⟩ = false := z6.frozen 12; have d13 : w6.cell? ⟨w.heap.size, 13, none⟩ = some (.string ⟨#[]⟩) := z6.cell 13; have f13 : w6.frozen? ⟨w.heap.size, 13, none⟩ = false := z6.frozen 13; clear ho5 hg5 hz5 y6 z6 zW hE))
      refine bodyPost_ret (v := .tuple #[.agg #[.int .i64 L.kind, .int .i64 L.frm, .int .i64 L.to, .int .i64 L.a, .int .i64 L.b, .int .i64 L.c, .int .i64 L.d, .string L.s, .string L.t, .slice Ap L.ps.length cp, .slice Ai L.is.length ci, .int .i64 L.code, .bool L.yes, .string L.body], .int .i64 0]) ?_ rfl (.inr ⟨i, _, _, Hi.out.1, Hi.out.2, rfl, HE.out.1, HE.out.2⟩)
      simp [results, Try.results25, go_sem, p0, p1, p2, p3, p4, p5, p6, p7, p8, p9, p10, p11, p12, p13]
end
end Go.Proofs.Ytabcoidjbigdbaa

namespace Go.Proofs.Ytabcoidjbigdbaa
open Go.RowKit

def SameER (E R : List NEn) : Prop := E.map (fun p => (p.n, p.L)) = R.map (fun p => (p.n, p.L))
section
variable {E R : List NEn} {k : Int}
theorem SameER.len (h : SameER E R) : E.length = R.length := by have := congrArg List.length h; simpa using this
theorem SameER.nums (h : SameER E R) : E.map (·.n) = R.map (·.n) := by
  have h2 := congrArg (List.map Prod.fst) h
  rw [List.map_map, List.map_map] at h2
  exact h2
theorem SameER.add (h : SameER E R) {a b : NEn} (hn : a.n = b.n) (hL : a.L = b.L) : SameER (E ++ [a]) (R ++ [b]) := by
  unfold SameER at h ⊢
  rw [List.map_append, List.map_append, h]
  simp [hn, hL]
theorem getN_none : getN k E = none ↔ ∀ p ∈ E, p.n ≠ k := by
  unfold getN
  rw [List.find?_eq_none]
  simp
theorem SameER.none (h : SameER E R) : getN k E = none ↔ ∀ p ∈ R, p.n ≠ k := by
  rw [getN_none]
  have h1 : (∀ x ∈ E.map (·.n), x ≠ k) ↔ (∀ x ∈ R.map (·.n), x ≠ k) := by rw [h.nums]
  simpa using h1
theorem rise_uniq {e e' : NEn} : ∀ {E : List NEn}, (E.Pairwise fun p q => p.n < q.n) → e ∈ E → e' ∈ E → e.n = e'.n → e = e'
  | [], _, h, _, _ => by simp at h
  | y :: l, hr, h, h', hn => by
    obtain ⟨h1, h2⟩ := List.pairwise_cons.1 hr
    rcases List.mem_cons.1 h with ha | ha
    · rcases List.mem_cons.1 h' with hb | hb
      · rw [ha, hb]
      · have := h1 _ hb; rw [ha] at hn; omega
    · rcases List.mem_cons.1 h' with hb | hb
      · have := h1 _ ha; rw [hb] at hn; omega
      · exact rise_uniq h2 ha hb hn
theorem SameER.get (h : SameER E R) (hr : E.Pairwise fun p q => p.n < q.n) {e p : NEn} {i : Nat} (he : getN k E = some e) (hp : R[i]? = some p) (hk : p.n = k) : e.L = p.L := by
  have h1 := congrArg (fun l => l[i]?) h
  simp only [List.getElem?_map, hp, Option.map_some] at h1
  obtain ⟨e', he', h2⟩ := Option.map_eq_some_iff.1 h1
  injection h2 with h2 h3
  obtain ⟨m1, m2⟩ := getN_some he
  have := rise_uniq hr m1 (List.mem_of_getElem? he') (by rw [m2, h2, hk])
  rw [this, h3]
theorem SameER.del : ∀ {E R : List NEn} {i : Nat} {p : NEn}, SameER E R → (E.Pairwise fun p q => p.n < q.n) → R[i]? = some p → p.n = k → SameER (delN k E) (R.take i ++ R.drop (i + 1))
  | _, [], i, p, _, _, hp, _ => by simp at hp
  | [], z :: m, i, p, h, _, _, _ => by simp [SameER] at h
  | y :: l, z :: m, 0, p, h, hr, hp, hk => by
    obtain ⟨h1, h2⟩ := List.pairwise_cons.1 hr
    simp at hp
    subst hp
    simp only [SameER, List.map_cons, List.cons.injEq, Prod.mk.injEq] at h
    obtain ⟨⟨e1, e2⟩, h3⟩ := h
    have hd : delN k (y :: l) = l := by
      unfold delN
      rw [List.filter_cons, if_neg (by simp [e1, hk])]
      exact List.filter_eq_self.2 fun q hq => by have := h1 q hq; simp; omega
    rw [hd]
    simpa [SameER] using h3
  | y :: l, z :: m, i + 1, p, h, hr, hp, hk => by
    obtain ⟨h1, h2⟩ := List.pairwise_cons.1 hr
    simp only [SameER, List.map_cons, List.cons.injEq, Prod.mk.injEq] at h
    obtain ⟨⟨e1, e2⟩, h3⟩ := h
    have hp' : m[i]? = some p := by simpa using hp
    have ih := SameER.del (E := l) (R := m) h3 h2 hp' hk
    have hy : y.n ≠ k := fun e => by
      have hg : ¬ ∀ q ∈ m, q.n ≠ k := fun hq => hq p (List.mem_of_getElem? hp') hk
      exact hg ((SameER.none (E := l) (R := m) h3).1 (getN_none.2 fun q hq e2 => by have := h1 q hq; omega))
    have hd : delN k (y :: l) = y :: delN k l := by
      unfold delN
      rw [List.filter_cons, if_pos (by simp [hy])]
    rw [hd, List.take_succ_cons, List.drop_succ_cons, List.cons_append]
    unfold SameER at ih ⊢
    rw [List.map_cons, List.map_cons, ih, e1, e2]
theorem delN_len (k : Int) (E : List NEn) : (delN k E).length ≤ E.length := List.length_filter_le _ _
end
/-- both nets in memory -/
structure PSt (w wr : World) (B C sb mb rb : Nat) (E : List NEn) (d : Nat) (R : List NEn) (dr : Nat) : Prop where
  net : NetAt wr B sb mb E d
  ref : ∃ v, RNet wr B C rb v R dr
  below : Below w.heap.size w wr
  lo : C ≤ w.heap.size ∧ w.heap.size ≤ B ∧ B ≤ wr.heap.size
section
variable {w wr w' : World} {B C sb mb rb d dr d' dr' : Nat} {E R E' R' : List NEn}
theorem PSt.next (h : PSt w wr B C sb mb rb E d R dr) (hb : Below wr.heap.size wr w') : PSt w w' B C sb mb rb E d R dr := by
  obtain ⟨v, r⟩ := h.ref
  obtain ⟨l1, l2, l3⟩ := h.lo
  exact ⟨h.net.below hb, ⟨v, r.below (by omega) hb⟩, h.below.trans (hb.mono (by omega)), l1, l2, Nat.le_trans l3 hb.size⟩
theorem PSt.netK (h : PSt w wr B C sb mb rb E d R dr) (n : NetAt w' B sb mb E' d') (k : Kept2 sb mb wr w') : PSt w w' B C sb mb rb E' d' R dr := by
  obtain ⟨v, r⟩ := h.ref
  obtain ⟨l1, l2, l3⟩ := h.lo
  have := h.net.sB
  have := h.net.mB
  exact ⟨n, ⟨v, r.kept2 (by omega) h.net k⟩, h.below.trans (k.below (by omega) (by omega) (by omega)), l1, l2, Nat.le_trans l3 k.size⟩
theorem PSt.netB (h : PSt w wr B C sb mb rb E d R dr) (hb : Below wr.heap.size wr w') : PSt w w' B C sb mb rb E d R dr := h.next hb
theorem PSt.refK (h : PSt w wr B C sb mb rb E d R dr) (r : ∃ v, RNet w' B C rb v R' dr') (k : KeptR B wr w') : PSt w w' B C sb mb rb E d R' dr' := by
  obtain ⟨l1, l2, l3⟩ := h.lo
  exact ⟨h.net.keptR k, r, h.below.trans (k.below.mono l2), l1, l2, Nat.le_trans l3 k.below.size⟩
theorem box_kept2 {g : Nat} {T : TypeId} {cs : Array Value} (b : Box wr g T cs) (n : NetAt wr B sb mb E d) (k : Kept2 sb mb wr w') (hne : T ≠ 102) : Box w' g T cs := by
  obtain ⟨es, c, hm⟩ := mapN_block n.own
  obtain ⟨h1, h2⟩ := box_no_net b n.box hm hne
  exact (k.block g b.lt h1 h2).trans b
theorem box_keptR {g : Nat} {T : TypeId} {cs : Array Value} (b : Box wr g T cs) (k : KeptR B wr w') (h1 : T ≠ 47) (h2 : T ≠ 59) : Box w' g T cs := k.typed _ _ b (notR_box h1 h2 _)
end
theorem store16 {w W : World} {g : Nat} {t : TypeId} {y0 y15 x0 x15 : Value} {y1 y2 y3 y4 y5 y6 y7 y8 y9 y10 y11 y12 y13 y14 x1 x2 x3 x4 x5 x6 x7 x8 x9 x10 x11 x12 x13 x14 : Value} (h : Box w g t #[y0, y1, y2, y3, y4, y5, y6, y7, y8, y9, y10, y11, y12, y13, y14, y15]) (hW : ((((((((((((((((w.setCell ⟨g, 0, none⟩ x0).setCell ⟨g, 1, none⟩ x1).setCell ⟨g, 2, none⟩ x2).setCell ⟨g, 3, none⟩ x3).setCell ⟨g, 4, none⟩ x4).setCell ⟨g, 5, none⟩ x5).setCell ⟨g, 6, none⟩ x6).setCell ⟨g, 7, none⟩ x7).setCell ⟨g, 8, none⟩ x8).setCell ⟨g, 9, none⟩ x9).setCell ⟨g, 10, none⟩ x10).setCell ⟨g, 11, none⟩ x11).setCell ⟨g, 12, none⟩ x12).setCell ⟨g, 13, none⟩ x13).setCell ⟨g, 14, none⟩ x14).setCell ⟨g, 15, none⟩ x15) = W) :
    Box W g t #[x0, x1, x2, x3, x4, x5, x6, x7, x8, x9, x10, x11, x12, x13, x14, x15] ∧ w.grownBy W (some g) ∧ W.heap.size = w.heap.size := by
  subst hW
  have b0 : Box _ g t #[x0, y1, y2, y3, y4, y5, y6, y7, y8, y9, y10, y11, y12, y13, y14, y15] := h.set_ 0 x0
  have b1 : Box _ g t #[x0, x1, y2, y3, y4, y5, y6, y7, y8, y9, y10, y11, y12, y13, y14, y15] := b0.set_ 1 x1
  have b2 : Box _ g t #[x0, x1, x2, y3, y4, y5, y6, y7, y8, y9, y10, y11, y12, y13, y14, y15] := b1.set_ 2 x2
  have b3 : Box _ g t #[x0, x1, x2, x3, y4, y5, y6, y7, y8, y9, y10, y11, y12, y13, y14, y15] := b2.set_ 3 x3
  have b4 : Box _ g t #[x0, x1, x2, x3, x4, y5, y6, y7, y8, y9, y10, y11, y12, y13, y14, y15] := b3.set_ 4 x4
  have b5 : Box _ g t #[x0, x1, x2, x3, x4, x5, y6, y7, y8, y9, y10, y11, y12, y13, y14, y15] := b4.set_ 5 x5
  have b6 : Box _ g t #[x0, x1, x2, x3, x4, x5, x6, y7, y8, y9, y10, y11, y12, y13, y14, y15] := b5.set_ 6 x6
  have b7 : Box _ g t #[x0, x1, x2, x3, x4, x5, x6, x7, y8, y9, y10, y11, y12, y13, y14, y15] := b6.set_ 7 x7
  have b8 : Box _ g t #[x0, x1, x2, x3, x4, x5, x6, x7, x8, y9, y10, y11, y12, y13, y14, y15] := b7.set_ 8 x8
  have b9 : Box _ g t #[x0, x1, x2, x3, x4, x5, x6, x7, x8, x9, y10, y11, y12, y13, y14, y15] := b8.set_ 9 x9
  have b10 : Box _ g t #[x0, x1, x2, x3, x4, x5, x6, x7, x8, x9, x10, y11, y12, y13, y14, y15] := b9.set_ 10 x10
  have b11 : Box _ g t #[x0, x1, x2, x3, x4, x5, x6, x7, x8, x9, x10, x11, y12, y13, y14, y15] := b10.set_ 11 x11
  have b12 : Box _ g t #[x0, x1, x2, x3, x4, x5, x6, x7, x8, x9, x10, x11, x12, y13, y14, y15] := b11.set_ 12 x12
  have b13 : Box _ g t #[x0, x1, x2, x3, x4, x5, x6, x7, x8, x9, x10, x11, x12, x13, y14, y15] := b12.set_ 13 x13
  have b14 : Box _ g t #[x0, x1, x2, x3, x4, x5, x6, x7, x8, x9, x10, x11, x12, x13, x14, y15] := b13.set_ 14 x14
  have b15 : Box _ g t #[x0, x1, x2, x3, x4, x5, x6, x7, x8, x9, x10, x11, x12, x13, x14, x15] := b14.set_ 15 x15
  refine ⟨b15, ?_, by simp⟩
  exact (((((((((((((((setCell_grown _ g 0 _).trans (setCell_grown _ g 1 _)).trans (setCell_grown _ g 2 _)).trans (setCell_grown _ g 3 _)).trans (setCell_grown _ g 4 _)).trans (setCell_grown _ g 5 _)).trans (setCell_grown _ g 6 _)).trans (setCell_grown _ g 7 _)).trans (setCell_grown _ g 8 _)).trans (setCell_grown _ g 9 _)).trans (setCell_grown _ g 10 _)).trans (setCell_grown _ g 11 _)).trans (setCell_grown _ g 12 _)).trans (setCell_grown _ g 13 _)).trans (setCell_grown _ g 14 _)).trans (setCell_grown _ g 15 _)
end Go.Proofs.Ytabcoidjbigdbaa

namespace Go.Proofs.Ytabcoidjbigdbaa
open Go.RowKit

/-- boxes of other types stay -/
def KB (w w' : World) : Prop := ∀ g T cs, T ≠ 47 → T ≠ 59 → T ≠ 102 → Box w g T cs → Box w' g T cs
theorem KB.below {w w' : World} (h : Below w.heap.size w w') : KB w w' := fun _ _ _ _ _ _ b => b.below h b.lt
theorem KB.trans {w w1 w2 : World} (h : KB w w1) (k : KB w1 w2) : KB w w2 := fun g T cs h1 h2 h3 b => k g T cs h1 h2 h3 (h g T cs h1 h2 h3 b)
theorem KB.kept2 {w w' : World} {B sb mb d : Nat} {E : List NEn} (n : NetAt w B sb mb E d) (k : Kept2 sb mb w w') : KB w w' := fun _ _ _ _ _ h3 b => box_kept2 b n k h3
theorem KB.keptR {w w' : World} {B : Nat} (k : KeptR B w w') : KB w w' := fun _ _ _ h1 h2 _ b => box_keptR b k h1 h2
section
variable {w w6 : World} {B C sb mb rb d : Nat} {E R : List NEn}
theorem send_twin (h : PSt w w6 B C sb mb rb E d R d) (hs : SameER E R) (hd : d ≤ 1000) (L : Let) (Ap : Option Addr) (cp : Nat) (Ai : Option Addr) (ci : Nat) (hL : ∀ wx, Below C w6 wx → LetIn wx C L Ap L.ps.length Ai L.is.length) :
    Calls Try.prog 22 #[.pointer (some ⟨sb, 0, none⟩), .agg #[.int .i64 L.kind, .int .i64 L.frm, .int .i64 L.to, .int .i64 L.a, .int .i64 L.b, .int .i64 L.c, .int .i64 L.d, .string L.s, .string L.t, .slice Ap L.ps.length cp, .slice Ai L.is.length ci, .int .i64 L.code, .bool L.yes, .string L.body]] w6 fun e w' => ∃ (x z : Int) (E2 : List NEn) (d2 : Nat), e = .returned (.tuple #[.int .i64 x, .int .i64 z]) ∧ PSt w w' B C sb mb rb E2 d2 R d ∧ KB w6 w' ∧ d2 ≤ d + 1 ∧ E2.length ≤ E.length + 1 ∧
      ∀ wy, Below w'.heap.size w' wy → Calls Try.prog 23 #[.pointer (some ⟨rb, 0, none⟩), .agg #[.int .i64 L.kind, .int .i64 L.frm, .int .i64 L.to, .int .i64 L.a, .int .i64 L.b, .int .i64 L.c, .int .i64 L.d, .string L.s, .string L.t, .slice Ap L.ps.length cp, .slice Ai L.is.length ci, .int .i64 L.code, .bool L.yes, .string L.body]] wy fun e w'' => e = .returned (.tuple #[.int .i64 x, .int .i64 z]) ∧ (∃ R2, PSt w w'' B C sb mb rb E2 d2 R2 d2 ∧ SameER E2 R2) ∧ KB wy w'' := by
  obtain ⟨l1, l2, l3⟩ := h.lo
  have l0 := hL w6 (Below.refl _ _)
  have hsb := h.net.sB
  have hmb := h.net.mB
  have hR : ∀ wx, Kept2 sb mb w6 wx → HasLps wx wx.heap.size Ap L.ps.length L.ps ∧ HasLis wx wx.heap.size Ai L.is.length L.is := fun wx hx => by
    have l := hL wx (hx.below (by omega) (by omega) (by omega))
    have := hx.size
    exact ⟨l.ps.more (by omega), l.is.more (by omega)⟩
  have href : ∀ (E2 : List NEn) (d2 : Nat) (w' : World), PSt w w' B C sb mb rb E2 d2 R d → Below C w6 w' → ∀ wy, Below w'.heap.size w' wy → Calls Try.prog 23 #[.pointer (some ⟨rb, 0, none⟩), .agg #[.int .i64 L.kind, .int .i64 L.frm, .int .i64 L.to, .int .i64 L.a, .int .i64 L.b, .int .i64 L.c, .int .i64 L.d, .string L.s, .string L.t, .slice Ap L.ps.length cp, .slice Ai L.is.length ci, .int .i64 L.code, .bool L.yes, .string L.body]] wy (RSendPost B C rb R d L wy) := fun E2 d2 w' p hb wy hy => by
    have py := p.next hy
    obtain ⟨v, r⟩ := py.ref
    obtain ⟨m1, m2, m3⟩ := py.lo
    have := p.lo
    have l := hL wy (hb.trans (hy.mono (by omega)))
    exact refSend_any r (by omega) m3 (by omega) L Ap cp Ai ci ⟨l.ps, l.is⟩ l.lens l.txt l.txp l.txi
  refine (netSend_any h.net l3 (by omega) L Ap L.ps.length cp Ai L.is.length ci hR l0.lens l0.txt l0.txp l0.txi).mono ?_
  rintro e w' hp
  rcases hp with ⟨he, rfl, n1, b1⟩ | ⟨he, hp⟩
  · have p1 := h.next b1
    refine ⟨0, L.err, E, d, rfl, p1, KB.below b1, by omega, by omega, fun wy hy => (href E d w' p1 (b1.mono (by omega)) wy hy).mono ?_⟩
    rintro e2 w2 hq
    rcases hq with ⟨-, rfl, r2, b2⟩ | ⟨he2, -⟩
    · exact ⟨rfl, ⟨R, (p1.next hy).next b2, hs⟩, KB.below b2⟩
    · exact absurd he2 he
  · rcases hp with ⟨hm, rfl, n1, b1⟩ | ⟨hm, en, hen, hel, rfl, n1, -, k1⟩
    · have p1 := h.next b1
      refine ⟨0, 17, E, d, rfl, p1, KB.below b1, by omega, by omega, fun wy hy => (href E d w' p1 (b1.mono (by omega)) wy hy).mono ?_⟩
      rintro e2 w2 hq
      rcases hq with ⟨he2, -⟩ | ⟨-, ⟨-, rfl, r2, b2⟩ | ⟨hm2, -⟩⟩
      · exact absurd he he2
      · exact ⟨rfl, ⟨R, (p1.next hy).next b2, hs⟩, KB.below b2⟩
      · have := hs.len; omega
    · have p1 := h.netK n1 k1
      refine ⟨((d + 1 : Nat) : Int), 0, E ++ [en], d + 1, rfl, p1, KB.kept2 h.net k1, by omega, by simp, fun wy hy => (href _ _ w' p1 (k1.below (by omega) (by omega) (by omega)) wy hy).mono ?_⟩
      rintro e2 w2 hq
      rcases hq with ⟨he2, -⟩ | ⟨-, ⟨hm2, -⟩ | ⟨-, en2, v2, hen2, hel2, rfl, r2, k2⟩⟩
      · exact absurd he he2
      · have := hs.len; omega
      · exact ⟨rfl, ⟨R ++ [en2], (p1.next hy).refK ⟨v2, r2⟩ k2, hs.add (hen.trans hen2.symm) (hel.trans hel2.symm)⟩, KB.keptR k2⟩
theorem twice_twin (h : PSt w w6 B C sb mb rb E d R d) (hs : SameER E R) (hd : d ≤ 1000) (hE : E.length ≤ 1000) (k : Int) (hk : (Lit.int .i64 k).wf = true) :
    Calls Try.prog 27 #[.pointer (some ⟨sb, 0, none⟩), .int .i64 k] w6 fun e w' => ∃ (x z : Int) (E2 : List NEn) (d2 : Nat), e = .returned (.tuple #[.int .i64 x, .int .i64 z]) ∧ PSt w w' B C sb mb rb E2 d2 R d ∧ KB w6 w' ∧ d2 ≤ d + 1 ∧ E2.length ≤ E.length + 1 ∧
      ∀ wy, Below w'.heap.size w' wy → Calls Try.prog 28 #[.pointer (some ⟨rb, 0, none⟩), .int .i64 k] wy fun e w'' => e = .returned (.tuple #[.int .i64 x, .int .i64 z]) ∧ (∃ R2, PSt w w'' B C sb mb rb E2 d2 R2 d2 ∧ SameER E2 R2) ∧ KB wy w'' := by
  obtain ⟨l1, l2, l3⟩ := h.lo
  have hlen := hs.len
  have href : ∀ (E2 : List NEn) (d2 : Nat) (w' : World), PSt w w' B C sb mb rb E2 d2 R d → ∀ wy, Below w'.heap.size w' wy → Calls Try.prog 28 #[.pointer (some ⟨rb, 0, none⟩), .int .i64 k] wy (RTwicePost B C rb R d k wy) := fun E2 d2 w' p wy hy => by
    have py := p.next hy
    obtain ⟨v, r⟩ := py.ref
    obtain ⟨m1, m2, m3⟩ := py.lo
    exact refTwice_any r (by omega) m3 (by omega) (by omega) k
  refine (netTwice_any h.net l3 (by omega) k hk).mono ?_
  rintro e w' hp
  rcases hp with ⟨hg, rfl, n1, b1⟩ | ⟨e0, hg, hp⟩
  · have p1 := h.next b1
    refine ⟨0, 7, E, d, rfl, p1, KB.below b1, by omega, by omega, fun wy hy => (href E d w' p1 wy hy).mono ?_⟩
    rintro e2 w2 hq
    rcases hq with ⟨-, rfl, r2, b2⟩ | ⟨i, p, hi, hpk, -⟩
    · exact ⟨rfl, ⟨R, (p1.next hy).next b2, hs⟩, KB.below b2⟩
    · exact absurd hpk (hs.none.1 hg p (List.mem_of_getElem? hi))
  · have hno : ¬ ∀ p ∈ R, p.n ≠ k := fun hq => by have := hs.none.2 hq; rw [hg] at this; cases this
    rcases hp with ⟨hm, rfl, n1, b1⟩ | ⟨hm, en, hen, hel, rfl, n1, -, k1⟩
    · have p1 := h.next b1
      refine ⟨0, 17, E, d, rfl, p1, KB.below b1, by omega, by omega, fun wy hy => (href E d w' p1 wy hy).mono ?_⟩
      rintro e2 w2 hq
      rcases hq with ⟨he2, -⟩ | ⟨i, p, hi, hpk, ⟨-, rfl, r2, b2⟩ | ⟨hm2, -⟩⟩
      · exact absurd he2 hno
      · exact ⟨rfl, ⟨R, (p1.next hy).next b2, hs⟩, KB.below b2⟩
      · omega
    · have p1 := h.netK n1 k1
      refine ⟨((d + 1 : Nat) : Int), 0, E ++ [en], d + 1, rfl, p1, KB.kept2 h.net k1, by omega, by simp, fun wy hy => (href _ _ w' p1 wy hy).mono ?_⟩
      rintro e2 w2 hq
      rcases hq with ⟨he2, -⟩ | ⟨i, p, hi, hpk, ⟨hm2, -⟩ | ⟨-, en2, v2, hen2, hel2, rfl, r2, k2⟩⟩
      · exact absurd he2 hno
      · omega
      · have hl := hs.get h.net.rise hg hi hpk
        exact ⟨rfl, ⟨R ++ [en2], (p1.next hy).refK ⟨v2, r2⟩ k2, hs.add (hen.trans hen2.symm) (hel.trans (hl.trans hel2.symm))⟩, KB.keptR k2⟩
/-- the document's Same says yes of equal letters -/
theorem same_yes {wz : World} (L : Let) (Ap : Option Addr) (cp : Nat) (Ai : Option Addr) (ci : Nat) (Bp : Option Addr) (dp : Nat) (Bi : Option Addr) (di : Nat) (h : HasLps wz wz.heap.size Ap L.ps.length L.ps ∧ HasLis wz wz.heap.size Ai L.is.length L.is) (h' : HasLps wz wz.heap.size Bp L.ps.length L.ps ∧ HasLis wz wz.heap.size Bi L.is.length L.is) (hn : L.ps.length ≤ maxLen ∧ L.is.length ≤ maxLen) :
    Calls Try.prog 16 #[.agg #[.int .i64 L.kind, .int .i64 L.frm, .int .i64 L.to, .int .i64 L.a, .int .i64 L.b, .int .i64 L.c, .int .i64 L.d, .string L.s, .string L.t, .slice Ap L.ps.length cp, .slice Ai L.is.length ci, .int .i64 L.code, .bool L.yes, .string L.body], .agg #[.int .i64 L.kind, .int .i64 L.frm, .int .i64 L.to, .int .i64 L.a, .int .i64 L.b, .int .i64 L.c, .int .i64 L.d, .string L.s, .string L.t, .slice Bp L.ps.length dp, .slice Bi L.is.length di, .int .i64 L.code, .bool L.yes, .string L.body]] wz fun e w' => e = .returned (.bool true) ∧ Below wz.heap.size wz w' := by
  have hh := sameL_any L L Ap L.ps.length cp Ai L.is.length ci Bp L.ps.length dp Bi L.is.length di wz.heap.size wz h.1 h.2 h'.1 h'.2 (Nat.le_refl _) hn hn
  rw [decide_eq_true rfl] at hh
  exact hh
/-- rows of the call's own as rows in memory -/
theorem own_has {wz : World} {L : Let} {Ap : Option Addr} {cp : Nat} {Ai : Option Addr} {ci B : Nat} (h : OwnLps wz B (.slice Ap L.ps.length cp) L.ps ∧ OwnLis wz B (.slice Ai L.is.length ci) L.is) : (HasLps wz wz.heap.size Ap L.ps.length L.ps ∧ HasLis wz wz.heap.size Ai L.is.length L.is) ∧ (L.ps.length ≤ maxLen ∧ L.is.length ≤ maxLen) := by
  obtain ⟨A1, c1, e1, x1, x2, h1⟩ := h.1.slice
  obtain ⟨A2, c2, e2, y1, y2, h2⟩ := h.2.slice
  injection e1 with e1 _ e1'
  injection e2 with e2 _ e2'
  subst e1 e2
  exact ⟨⟨h1, h2⟩, by omega, by omega⟩
theorem deliver_twin (h : PSt w w6 B C sb mb rb E d R d) (hs : SameER E R) (hE : E.length ≤ 1000) (k : Int) (hk : (Lit.int .i64 k).wf = true) :
    Calls Try.prog 24 #[.pointer (some ⟨sb, 0, none⟩), .int .i64 k] w6 fun e w' => ∃ (X : Let) (Xp : Option Addr) (cx : Nat) (Xi : Option Addr) (dx : Nat) (z : Int) (E2 : List NEn), e = .returned (.tuple #[.agg #[.int .i64 X.kind, .int .i64 X.frm, .int .i64 X.to, .int .i64 X.a, .int .i64 X.b, .int .i64 X.c, .int .i64 X.d, .string X.s, .string X.t, .slice Xp X.ps.length cx, .slice Xi X.is.length dx, .int .i64 X.code, .bool X.yes, .string X.body], .int .i64 z]) ∧ PSt w w' B C sb mb rb E2 d R d ∧ KB w6 w' ∧ E2.length ≤ E.length ∧
      ∀ wy, Below w'.heap.size w' wy → Calls Try.prog 25 #[.pointer (some ⟨rb, 0, none⟩), .int .i64 k] wy fun e w'' => ∃ (Yp : Option Addr) (cy : Nat) (Yi : Option Addr) (dy : Nat), e = .returned (.tuple #[.agg #[.int .i64 X.kind, .int .i64 X.frm, .int .i64 X.to, .int .i64 X.a, .int .i64 X.b, .int .i64 X.c, .int .i64 X.d, .string X.s, .string X.t, .slice Yp X.ps.length cy, .slice Yi X.is.length dy, .int .i64 X.code, .bool X.yes, .string X.body], .int .i64 z]) ∧ (∃ R2, PSt w w'' B C sb mb rb E2 d R2 d ∧ SameER E2 R2) ∧ KB wy w'' ∧
        ∀ wz, Below w''.heap.size w'' wz → Calls Try.prog 16 #[.agg #[.int .i64 X.kind, .int .i64 X.frm, .int .i64 X.to, .int .i64 X.a, .int .i64 X.b, .int .i64 X.c, .int .i64 X.d, .string X.s, .string X.t, .slice Xp X.ps.length cx, .slice Xi X.is.length dx, .int .i64 X.code, .bool X.yes, .string X.body], .agg #[.int .i64 X.kind, .int .i64 X.frm, .int .i64 X.to, .int .i64 X.a, .int .i64 X.b, .int .i64 X.c, .int .i64 X.d, .string X.s, .string X.t, .slice Yp X.ps.length cy, .slice Yi X.is.length dy, .int .i64 X.code, .bool X.yes, .string X.body]] wz fun e w3 => e = .returned (.bool true) ∧ Below wz.heap.size wz w3 := by
  obtain ⟨l1, l2, l3⟩ := h.lo
  have hlen := hs.len
  have href : ∀ (E2 : List NEn) (d2 : Nat) (w' : World), PSt w w' B C sb mb rb E2 d2 R d → ∀ wy, Below w'.heap.size w' wy → Calls Try.prog 25 #[.pointer (some ⟨rb, 0, none⟩), .int .i64 k] wy (RDelPost B C rb R d k wy) := fun E2 d2 w' p wy hy => by
    have py := p.next hy
    obtain ⟨v, r⟩ := py.ref
    obtain ⟨m1, m2, m3⟩ := py.lo
    exact refDeliver_any r (by omega) m3 (by omega) k
  refine (netDeliver_any h.net k hk).mono ?_
  rintro e w' hp
  rcases hp with ⟨hg, rfl, n1, b1⟩ | ⟨e0, hg, rfl, n1, o1, k1⟩
  · have p1 := h.next b1
    refine ⟨zeroLet, none, 0, none, 0, 7, E, rfl, p1, KB.below b1, by omega, fun wy hy => (href E d w' p1 wy hy).mono ?_⟩
    rintro e2 w2 hq
    rcases hq with ⟨-, rfl, r2, b2⟩ | ⟨i, p, v, hi, hpk, -⟩
    · exact ⟨none, 0, none, 0, rfl, ⟨R, (p1.next hy).next b2, hs⟩, KB.below b2, fun wz _ => same_yes zeroLet none 0 none 0 none 0 none 0 ⟨HasLps.nil _ _ _, HasLis.nil _ _ _⟩ ⟨HasLps.nil _ _ _, HasLis.nil _ _ _⟩ ⟨by simp [zeroLet], by simp [zeroLet]⟩⟩
    · exact absurd hpk (hs.none.1 hg p (List.mem_of_getElem? hi))
  · have hno : ¬ ∀ p ∈ R, p.n ≠ k := fun hq => by have := hs.none.2 hq; rw [hg] at this; cases this
    have p1 := h.netK n1 k1
    refine ⟨e0.L, e0.Ap, e0.cp, e0.Ai, e0.ci, 0, delN k E, rfl, p1, KB.kept2 h.net k1, delN_len _ _, fun wy hy => (href _ _ w' p1 wy hy).mono ?_⟩
    rintro e2 w2 hq
    rcases hq with ⟨he2, -⟩ | ⟨i, p, v, hi, hpk, rfl, r2, k2⟩
    · exact absurd he2 hno
    · have hl := hs.get h.net.rise hg hi hpk
      have o2 : OwnLps w2 B (.slice e0.Ap e0.L.ps.length e0.cp) e0.L.ps ∧ OwnLis w2 B (.slice e0.Ai e0.L.is.length e0.ci) e0.L.is :=
        ⟨k2.own (o1.1.below hy) (by decide) (by decide), k2.own (o1.2.below hy) (by decide) (by decide)⟩
      have p2 := (p1.next hy).refK ⟨v, r2⟩ k2
      obtain ⟨vR, rR⟩ := (p1.next hy).ref
      have hrow := rR.rows p (List.mem_of_getElem? hi)
      rw [hl] at o2 ⊢
      refine ⟨p.Ap, p.cp, p.Ai, p.ci, rfl, ⟨_, p2, hs.del h.net.rise hi hpk⟩, KB.keptR k2, fun wz hz => ?_⟩
      have o3 : OwnLps wz B (.slice e0.Ap p.L.ps.length e0.cp) p.L.ps ∧ OwnLis wz B (.slice e0.Ai p.L.is.length e0.ci) p.L.is := ⟨o2.1.below hz, o2.2.below hz⟩
      obtain ⟨h3, h4⟩ := own_has o3
      have l2 := p2.lo
      have bz : Below C wy wz := (k2.below.mono (by omega)).trans (hz.mono (by omega))
      have := hz.size
      exact same_yes p.L _ _ _ _ _ _ _ _ h3 ⟨(hrow.1.below bz).more (by omega), (hrow.2.below bz).more (by omega)⟩ h4
theorem drop_twin (h : PSt w w6 B C sb mb rb E d R d) (hs : SameER E R) (hE : E.length ≤ 1000) (k : Int) (hk : (Lit.int .i64 k).wf = true) :
    Calls Try.prog 25 #[.pointer (some ⟨rb, 0, none⟩), .int .i64 k] w6 fun e w' => ∃ (X : Let) (Xp : Option Addr) (cx : Nat) (Xi : Option Addr) (dx : Nat) (z : Int) (R2 : List NEn), e = .returned (.tuple #[.agg #[.int .i64 X.kind, .int .i64 X.frm, .int .i64 X.to, .int .i64 X.a, .int .i64 X.b, .int .i64 X.c, .int .i64 X.d, .string X.s, .string X.t, .slice Xp X.ps.length cx, .slice Xi X.is.length dx, .int .i64 X.code, .bool X.yes, .string X.body], .int .i64 z]) ∧ PSt w w' B C sb mb rb E d R2 d ∧ KB w6 w' ∧
      ∀ wy, Below w'.heap.size w' wy → Calls Try.prog 26 #[.pointer (some ⟨sb, 0, none⟩), .int .i64 k] wy fun e w'' => e = .returned (.int .i64 z) ∧ (∃ E2, PSt w w'' B C sb mb rb E2 d R2 d ∧ SameER E2 R2 ∧ E2.length ≤ E.length) ∧ KB wy w'' := by
  obtain ⟨l1, l2, l3⟩ := h.lo
  have hlen := hs.len
  obtain ⟨v, r⟩ := h.ref
  refine (refDeliver_any r (by omega) l3 (by omega) k).mono ?_
  rintro e w' hp
  rcases hp with ⟨hg, rfl, r1, b1⟩ | ⟨i, p, v1, hi, hpk, rfl, r1, k1⟩
  · have p1 := h.next b1
    refine ⟨zeroLet, none, 0, none, 0, 7, R, rfl, p1, KB.below b1, fun wy hy => (netDrop_any (p1.next hy).net k hk).mono ?_⟩
    rintro e2 w2 hq
    rcases hq with ⟨-, rfl, n2, b2⟩ | ⟨e0, hg2, -⟩
    · exact ⟨rfl, ⟨E, (p1.next hy).next b2, hs, by omega⟩, KB.below b2⟩
    · rw [hs.none.2 hg] at hg2; cases hg2
  · have p1 := h.refK ⟨v1, r1⟩ k1
    refine ⟨p.L, p.Ap, p.cp, p.Ai, p.ci, 0, _, rfl, p1, KB.keptR k1, fun wy hy => (netDrop_any (p1.next hy).net k hk).mono ?_⟩
    rintro e2 w2 hq
    rcases hq with ⟨hg2, -⟩ | ⟨e0, hg2, rfl, n2, k2⟩
    · exact absurd hpk (hs.none.1 hg2 p (List.mem_of_getElem? hi))
    · exact ⟨rfl, ⟨_, (p1.next hy).netK n2 k2, hs.del h.net.rise hi hpk, delN_len _ _⟩, KB.kept2 (p1.next hy).net k2⟩
end
end Go.Proofs.Ytabcoidjbigdbaa

namespace Go.Proofs.Ytabcoidjbigdbaa
open Go.RowKit

section
variable {w w6 wx : World} {B C sb mb rb d : Nat} {E R : List NEn}
theorem look_twin (h : PSt w w6 B C sb mb rb E d R d) (hs : SameER E R) (hE : E.length ≤ 1000) (k : Int) (hk : (Lit.int .i64 k).wf = true) :
    Calls Try.prog 29 #[.pointer (some ⟨sb, 0, none⟩), .int .i64 k] w6 fun e w' => ∃ (X : Let) (Xp : Option Addr) (cx : Nat) (Xi : Option Addr) (dx : Nat) (is : Bool), e = .returned (.tuple #[.agg #[.int .i64 X.kind, .int .i64 X.frm, .int .i64 X.to, .int .i64 X.a, .int .i64 X.b, .int .i64 X.c, .int .i64 X.d, .string X.s, .string X.t, .slice Xp X.ps.length cx, .slice Xi X.is.length dx, .int .i64 X.code, .bool X.yes, .string X.body], .bool is]) ∧ Below w6.heap.size w6 w' ∧
      ∀ wy, Below w'.heap.size w' wy → Calls Try.prog 30 #[.pointer (some ⟨rb, 0, none⟩), .int .i64 k] wy fun e w'' => w'' = wy ∧
        ((is = false ∧ e = .returned (.int .i64 (-1)) ∧ ∀ wz, Below wy.heap.size wy wz → Calls Try.prog 16 #[.agg #[.int .i64 X.kind, .int .i64 X.frm, .int .i64 X.to, .int .i64 X.a, .int .i64 X.b, .int .i64 X.c, .int .i64 X.d, .string X.s, .string X.t, .slice Xp X.ps.length cx, .slice Xi X.is.length dx, .int .i64 X.code, .bool X.yes, .string X.body], .agg #[.int .i64 0, .int .i64 0, .int .i64 0, .int .i64 0, .int .i64 0, .int .i64 0, .int .i64 0, .string ⟨#[]⟩, .string ⟨#[]⟩, .slice none 0 0, .slice none 0 0, .int .i64 0, .bool false, .string ⟨#[]⟩]] wz fun e w3 => e = .returned (.bool true) ∧ Below wz.heap.size wz w3) ∨
         (is = true ∧ ∃ (i N : Nat) (a : Addr) (cap : Nat) (Yp : Option Addr) (cy : Nat) (Yi : Option Addr) (dy : Nat), e = .returned (.int .i64 (i : Int)) ∧ i < N ∧ N ≤ 1000 ∧ ∀ wz, Below wy.heap.size wy wz → (wz.cell? ⟨rb, 0, none⟩ = some (.slice (some a) N cap) ∧ wz.cell? ⟨(a.add (i * 15)).block, (a.add (i * 15)).off + 1, none⟩ = some (.int .i64 X.kind) ∧ wz.cell? ⟨(a.add (i * 15)).block, (a.add (i * 15)).off + 2, none⟩ = some (.int .i64 X.frm) ∧ wz.cell? ⟨(a.add (i * 15)).block, (a.add (i * 15)).off + 3, none⟩ = some (.int .i64 X.to) ∧ wz.cell? ⟨(a.add (i * 15)).block, (a.add (i * 15)).off + 4, none⟩ = some (.int .i64 X.a) ∧ wz.cell? ⟨(a.add (i * 15)).block, (a.add (i * 15)).off + 5, none⟩ = some (.int .i64 X.b) ∧ wz.cell? ⟨(a.add (i * 15)).block, (a.add (i * 15)).off + 6, none⟩ = some (.int .i64 X.c) ∧ wz.cell? ⟨(a.add (i * 15)).block, (a.add (i * 15)).off + 7, none⟩ = some (.int .i64 X.d) ∧ wz.cell? ⟨(a.add (i * 15)).block, (a.add (i * 15)).off + 8, none⟩ = some (.string X.s) ∧ wz.cell? ⟨(a.add (i * 15)).block, (a.add (i * 15)).off + 9, none⟩ = some (.string X.t) ∧ wz.cell? ⟨(a.add (i * 15)).block, (a.add (i * 15)).off + 10, none⟩ = some (.slice Yp X.ps.length cy) ∧ wz.cell? ⟨(a.add (i * 15)).block, (a.add (i * 15)).off + 11, none⟩ = some (.slice Yi X.is.length dy) ∧ wz.cell? ⟨(a.add (i * 15)).block, (a.add (i * 15)).off + 12, none⟩ = some (.int .i64 X.code) ∧ wz.cell? ⟨(a.add (i * 15)).block, (a.add (i * 15)).off + 13, none⟩ = some (.bool X.yes) ∧ wz.cell? ⟨(a.add (i * 15)).block, (a.add (i * 15)).off + 14, none⟩ = some (.string X.body)) ∧
            Calls Try.prog 16 #[.agg #[.int .i64 X.kind, .int .i64 X.frm, .int .i64 X.to, .int .i64 X.a, .int .i64 X.b, .int .i64 X.c, .int .i64 X.d, .string X.s, .string X.t, .slice Xp X.ps.length cx, .slice Xi X.is.length dx, .int .i64 X.code, .bool X.yes, .string X.body], .agg #[.int .i64 X.kind, .int .i64 X.frm, .int .i64 X.to, .int .i64 X.a, .int .i64 X.b, .int .i64 X.c, .int .i64 X.d, .string X.s, .string X.t, .slice Yp X.ps.length cy, .slice Yi X.is.length dy, .int .i64 X.code, .bool X.yes, .string X.body]] wz fun e w3 => e = .returned (.bool true) ∧ Below wz.heap.size wz w3)) := by
  obtain ⟨l1, l2, l3⟩ := h.lo
  have hlen := hs.len
  refine (netLook_any h.net k hk).mono ?_
  rintro e w' ⟨Xp, cx, Xi, dx, rfl, o1, o2, n1, b1⟩
  have p1 := h.next b1
  refine ⟨lookL k E, Xp, cx, Xi, dx, (getN k E).isSome, rfl, b1, fun wy hy => ?_⟩
  have py := p1.next hy
  obtain ⟨v, r⟩ := py.ref
  obtain ⟨m1, m2, m3⟩ := py.lo
  refine (refAt_any r (by omega) k).mono ?_
  rintro e2 w2 ⟨rfl, hq⟩
  refine ⟨rfl, ?_⟩
  rcases hq with ⟨rfl, hno⟩ | ⟨i, p, rfl, hi, hpk, -⟩
  · have hg := hs.none.2 hno
    refine .inl ⟨by rw [hg]; rfl, rfl, fun wz hz => ?_⟩
    have hX : lookL k E = zeroLet := by unfold lookL; rw [hg]
    have o3 : OwnLps wz w6.heap.size (.slice Xp (lookL k E).ps.length cx) (lookL k E).ps ∧ OwnLis wz w6.heap.size (.slice Xi (lookL k E).is.length dx) (lookL k E).is := ⟨(o1.below hy).below hz, (o2.below hy).below hz⟩
    rw [hX] at o3 ⊢
    obtain ⟨h3, h4⟩ := own_has o3
    exact same_yes zeroLet Xp cx Xi dx none 0 none 0 h3 ⟨HasLps.nil _ _ _, HasLis.nil _ _ _⟩ h4
  · have hno : ¬ ∀ p ∈ R, p.n ≠ k := fun hq => hq p (List.mem_of_getElem? hi) hpk
    obtain ⟨e0, hg⟩ : ∃ e0, getN k E = some e0 := by
      cases hg : getN k E with
      | none => exact absurd (hs.none.1 hg) hno
      | some e0 => exact ⟨e0, rfl⟩
    have hl := hs.get h.net.rise hg hi hpk
    have hX : lookL k E = p.L := by unfold lookL; rw [hg]; exact hl
    obtain ⟨A, cap, hv, -, -, hss⟩ := r.own.slice
    have hil := (List.getElem?_eq_some_iff.1 hi).1
    obtain ⟨a, y, ha, -, hy', c0, cc⟩ := hss.at_ hil
    obtain rfl : y = p := by rw [hi] at hy'; exact (Option.some.inj hy').symm
    have hrow := r.rows y (List.mem_of_getElem? hi)
    refine .inr ⟨by rw [hg]; rfl, i, R.length, a, cap, y.Ap, y.cp, y.Ai, y.ci, rfl, hil, by omega, fun wz hz => ?_⟩
    have rz := r.below (by omega) hz
    have o3 : OwnLps wz w6.heap.size (.slice Xp (lookL k E).ps.length cx) (lookL k E).ps ∧ OwnLis wz w6.heap.size (.slice Xi (lookL k E).is.length dx) (lookL k E).is := ⟨(o1.below hy).below hz, (o2.below hy).below hz⟩
    rw [hX] at o3 ⊢
    obtain ⟨h3, h4⟩ := own_has o3
    have hz2 := hz.size
    refine ⟨⟨?_, ?_⟩, same_yes y.L _ _ _ _ _ _ _ _ h3 ⟨(hrow.1.belowOf hz (by omega)).more (by omega), (hrow.2.belowOf hz (by omega)).more (by omega)⟩ h4⟩
    · rw [← ha, ← hv]
      exact rz.box.cell 0
    · have hsz : HasSns wz wz.heap.size (some a) R.length R := (ha ▸ hss).belowOf hz (Nat.le_refl _) |>.more hz.size
      obtain ⟨a', y', ha', -, hy2, -, cc'⟩ := hsz.at_ hil
      injection ha' with ha'
      subst ha'
      obtain rfl : y' = y := by rw [hi] at hy2; exact (Option.some.inj hy2).symm
      exact cc'
/-- what the law asks of both nets behind each call -/
theorem under_twin (h : PSt w wx B C sb mb rb E d R d) (hs : SameER E R) (hE : E.length ≤ 1000) :
    ∃ (N : Nat) (xs : List Int) (Av : Option Addr) (cap : Nat), N ≤ 1000 ∧ xs.length = N ∧ ∀ wy, Below wx.heap.size wx wy →
      Calls Try.prog 32 #[.pointer (some ⟨sb, 0, none⟩)] wy (fun e w' => ∃ A c, e = .returned (.slice A N c) ∧ w'.ownsRow wy.heap.size 3 1 (.slice A N c) N (xs.map encZ) ∧ Below wy.heap.size wy w') ∧
      Calls Try.prog 33 #[.pointer (some ⟨rb, 0, none⟩)] wy (fun e w' => ∃ A c, e = .returned (.slice A N c) ∧ w'.ownsRow wy.heap.size 3 1 (.slice A N c) N (xs.map encZ) ∧ Below wy.heap.size wy w') ∧
      Calls Try.prog 34 #[.pointer (some ⟨sb, 0, none⟩)] wy (fun e w' => e = .returned (.int .i64 (N : Int)) ∧ Below wy.heap.size wy w') ∧
      wy.cell? ⟨rb, 0, none⟩ = some (.slice Av N cap) := by
  obtain ⟨l1, l2, l3⟩ := h.lo
  have hlen := hs.len
  obtain ⟨v, r⟩ := h.ref
  obtain ⟨Av, cap, hv, -, -, -⟩ := r.own.slice
  refine ⟨E.length, E.map (·.n), Av, cap, hE, by simp, fun wy hy => ?_⟩
  have py := h.next hy
  have ry := r.below (by omega) hy
  refine ⟨(netUnder_any py.net (by omega)).mono ?_, (refUnder_any ry (by omega)).mono ?_, netLen_any py.net, ?_⟩
  · rintro e w' ⟨u, rfl, hu, b⟩
    obtain ⟨A, c, rfl, -⟩ := own_sliceN hu
    exact ⟨A, c, rfl, hu, b⟩
  · rintro e w' ⟨u, rfl, hu, b⟩
    rw [← hlen, ← hs.nums] at hu
    obtain ⟨A, c, rfl, -⟩ := own_sliceN hu
    exact ⟨A, c, rfl, hu, b⟩
  · rw [hlen, ← hv]
    exact ry.box.cell 0
theorem sameInts_yes {w2 : World} {A A' : Option Addr} {N c c' D D' : Nat} {xs : List Int} (h : w2.ownsRow D 3 1 (.slice A N c) N (xs.map encZ)) (h' : w2.ownsRow D' 3 1 (.slice A' N c') N (xs.map encZ)) (hl : xs.length = N) (hN : N ≤ 1000) :
    Calls Try.prog 31 #[.slice A N c, .slice A' N c'] w2 fun e w' => e = .returned (.bool true) ∧ Below w2.heap.size w2 w' := by
  have hh := sameInts_any A A' N N c c' _ _ xs xs w2 (Has.of_own h) (Has.of_own h') hl hl (by simp only [maxLen]; omega) (by simp only [maxLen]; omega)
  rw [decide_eq_true rfl] at hh
  exact hh
end
end Go.Proofs.Ytabcoidjbigdbaa

/- Package net: Deliver, Drop, Look. Condition: the net is in memory. -/
import Derived.Test.YtaljojjpgkmiiaaMNetD
import Derived.Test.YtaljojjpgkmiiaaMLetL
namespace Go.Proofs.Ytaljojjpgkmiiaa
open Go.RowKit

def DelPost (B sb mb : Nat) (E : List NEn) (d : Nat) (k : Int) (w : World) (e : Ending) (w' : World) : Prop :=
  (getN k E = none ∧ e = .returned (.tuple #[.agg #[.int .i64 0, .int .i64 0, .int .i64 0, .int .i64 0, .int .i64 0, .int .i64 0, .int .i64 0, .string ⟨#[]⟩, .string ⟨#[]⟩, .slice none 0 0, .slice none 0 0, .int .i64 0, .bool false, .string ⟨#[]⟩], .int .i64 7]) ∧ NetAt w' B sb mb E d ∧ Below w.heap.size w w') ∨
  (∃ e0, getN k E = some e0 ∧ e = .returned (.tuple #[.agg #[.int .i64 e0.L.kind, .int .i64 e0.L.frm, .int .i64 e0.L.to, .int .i64 e0.L.a, .int .i64 e0.L.b, .int .i64 e0.L.c, .int .i64 e0.L.d, .string e0.L.s, .string e0.L.t, .slice e0.Ap e0.L.ps.length e0.cp, .slice e0.Ai e0.L.is.length e0.ci, .int .i64 e0.L.code, .bool e0.L.yes, .string e0.L.body], .int .i64 0]) ∧ NetAt w' B sb mb (delN k E) d ∧
    (OwnLps w' B (.slice e0.Ap e0.L.ps.length e0.cp) e0.L.ps ∧ OwnLis w' B (.slice e0.Ai e0.L.is.length e0.ci) e0.L.is) ∧ Kept2 sb mb w w')
section
variable {w : World} {B sb mb d : Nat} {E : List NEn}
theorem NetAt.del {w w2 wM : World} {B sb mb d : Nat} {E : List NEn} {k : Int} (h : NetAt w B sb mb E d) (hb : Below w.heap.size w w2) (hM : wM.ownsMap Try.prog 3 Rn mb E.length ((nmap E).del (.int .i64 k))) (hT : w2.mapTurned wM mb) : NetAt wM B sb mb (delN k E) d ∧ Kept2 sb mb w wM := by
  have kk : Kept2 sb mb w wM := (Kept2.of hb).trans (turnedN_kept hT)
  rw [nmap_del] at hM
  have hM2 := mapN_size hM
  rw [nmap_size] at hM2
  have sub : ∀ p ∈ delN k E, p ∈ E := fun p hp => (List.mem_filter.1 hp).1
  exact ⟨⟨h.sB, h.mB, turnedN_box hT (h.below hb).box, hM2, h.rise.filter _, fun p hp => h.nums p (sub p hp), fun p hp => ⟨h.rowKept kk (h.rows p (sub p hp)).1 typesN.1, h.rowKept kk (h.rows p (sub p hp)).2 typesN.2⟩, fun p hp => h.good p (sub p hp)⟩, kk⟩
theorem NetAt.upto {w : World} {B sb mb d : Nat} {E : List NEn} (h : NetAt w B sb mb E d) {w' : World} {g : Nat} (hg : w.grownBy w' (some g)) (h1 : ∀ i o, w.heap[i]? = some o → i = sb ∨ i = mb ∨ (∃ cs, o = .cells cs 94 (0, 0)) ∨ (∃ cs, o = .cells cs 96 (0, 0)) → i ≠ g) : NetAt w' B sb mb E d := by
  obtain ⟨es, c, hm⟩ := mapN_block h.own
  have hsb := h.box
  unfold Box at hsb
  refine { h with
    box := h.box.grown hg (fun e => h1 sb _ hsb (.inl rfl) (by injection e))
    own := mapN_keep h.own (hg.block mb h.own.lt (fun e => h1 mb _ hm (.inr (.inl rfl)) (by injection e)))
    rows := fun p hp => ⟨own_grownT (h.rows p hp).1 hg fun b hb => ?_, own_grownT (h.rows p hp).2 hg fun b hb => ?_⟩ }
  · rcases (h.rows p hp).1.2 with ⟨e, _⟩ | ⟨b', cap, cur, e, hB, hh, rest⟩
    · rw [e] at hb; cases hb
    · rw [e] at hb; cases hb
      exact h1 b' _ hh (.inr (.inr (.inl ⟨_, rfl⟩)))
  · rcases (h.rows p hp).2.2 with ⟨e, _⟩ | ⟨b', cap, cur, e, hB, hh, rest⟩
    · rw [e] at hb; cases hb
    · rw [e] at hb; cases hb
      exact h1 b' _ hh (.inr (.inr (.inr ⟨_, rfl⟩)))
/-- a store into a letter's box leaves a net as it was -/
theorem NetAt.store14 {w : World} {B sb mb d : Nat} {E : List NEn} (h : NetAt w B sb mb E d) {W : World} {g : Nat} (hg : w.grownBy W (some g)) {cs : Array Value} (hb : Box w g 69 cs) : NetAt W B sb mb E d := by
  refine h.upto hg fun i o ho hi e => ?_
  subst e
  obtain ⟨es, c, hm⟩ := mapN_block h.own
  have hsb := h.box
  unfold Box at hsb hb
  rw [hb] at ho
  rcases hi with rfl | rfl | ⟨cs', rfl⟩ | ⟨cs', rfl⟩
  · rw [hsb] at hb
    injection hb with hb
    injection hb with _ hb
    exact absurd hb (by decide)
  · rw [hm] at hb; cases hb
  · injection ho with ho
    injection ho with _ ho
    exact absurd ho (by decide)
  · injection ho with ho
    injection ho with _ ho
    exact absurd ho (by decide)
set_option maxRecDepth 100000 in
set_option maxHeartbeats 6400000 in
theorem netDeliver_any (h : NetAt w B sb mb E d) (k : Int) (hk : (Lit.int .i64 k).wf = true) :
    Calls Try.prog 36 #[.pointer (some ⟨sb, 0, none⟩), .int .i64 k] w (DelPost B sb mb E d k w) := by
  have b0 := below_box (w := w) (.cells #[.int .i64 0, .int .i64 0, .int .i64 0, .int .i64 0, .int .i64 0, .int .i64 0, .int .i64 0, .string ⟨#[]⟩, .string ⟨#[]⟩, .slice none 0 0, .slice none 0 0, .int .i64 0, .bool false, .string ⟨#[]⟩] 69)
  have z0 := Box.made w 69 #[.int .i64 0, .int .i64 0, .int .i64 0, .int .i64 0, .int .i64 0, .int .i64 0, .int .i64 0, .string ⟨#[]⟩, .string ⟨#[]⟩, .slice none 0 0, .slice none 0 0, .int .i64 0, .bool false, .string ⟨#[]⟩]
  have h0 := h.below b0
  obtain ⟨q0, -, -, -⟩ := h0.cells
  obtain ⟨l0, l1⟩ := h0.look k hk
  have lt0 := z0.lt
  cases hg : getN k E with
  | none =>
    have hl := l0 hg
    obtain ⟨w2, hw2⟩ : ∃ w2, ((w.alloc (.cells #[.int .i64 0, .int .i64 0, .int .i64 0, .int .i64 0, .int .i64 0, .int .i64 0, .int .i64 0, .string ⟨#[]⟩, .string ⟨#[]⟩, .slice none 0 0, .slice none 0 0, .int .i64 0, .bool false, .string ⟨#[]⟩] 69)).alloc (.cells #[.int .i64 0, .int .i64 0, .int .i64 0, .int .i64 0, .int .i64 0, .int .i64 0, .int .i64 0, .string ⟨#[]⟩, .string ⟨#[]⟩, .slice none 0 0, .slice none 0 0, .int .i64 0, .bool false, .string ⟨#[]⟩] 69)) = w2 := ⟨_, rfl⟩
    have b2 : Below (w.alloc (.cells #[.int .i64 0, .int .i64 0, .int .i64 0, .int .i64 0, .int .i64 0, .int .i64 0, .int .i64 0, .string ⟨#[]⟩, .string ⟨#[]⟩, .slice none 0 0, .slice none 0 0, .int .i64 0, .bool false, .string ⟨#[]⟩] 69)).heap.size (w.alloc (.cells #[.int .i64 0, .int .i64 0, .int .i64 0, .int .i64 0, .int .i64 0, .int .i64 0, .int .i64 0, .string ⟨#[]⟩, .string ⟨#[]⟩, .slice none 0 0, .slice none 0 0, .int .i64 0, .bool false, .string ⟨#[]⟩] 69)) w2 := hw2 ▸ below_box _
    have z2 := z0.below b2 lt0
    have h2 := h0.below b2
    have bw : Below w.heap.size w w2 := b0.trans (b2.mono (by simp))
    have y2 : Box w2 (w.heap.size + 1) 69 #[.int .i64 0, .int .i64 0, .int .i64 0, .int .i64 0, .int .i64 0, .int .i64 0, .int .i64 0, .string ⟨#[]⟩, .string ⟨#[]⟩, .slice none 0 0, .slice none 0 0, .int .i64 0, .bool false, .string ⟨#[]⟩] := by
      have := Box.made (w.alloc (.cells #[.int .i64 0, .int .i64 0, .int .i64 0, .int .i64 0, .int .i64 0, .int .i64 0, .int .i64 0, .string ⟨#[]⟩, .string ⟨#[]⟩, .slice none 0 0, .slice none 0 0, .int .i64 0, .bool false, .string ⟨#[]⟩] 69)) 69 #[.int .i64 0, .int .i64 0, .int .i64 0, .int .i64 0, .int .i64 0, .int .i64 0, .int .i64 0, .string ⟨#[]⟩, .string ⟨#[]⟩, .slice none 0 0, .slice none 0 0, .int .i64 0, .bool false, .string ⟨#[]⟩]
      rwa [World.size_alloc, hw2] at this
    obtain ⟨w3, hw3⟩ : ∃ w3, ((((((((((((((w2.setCell ⟨w.heap.size + 1, 0, none⟩ (.int .i64 0)).setCell ⟨w.heap.size + 1, 1, none⟩ (.int .i64 0)).setCell ⟨w.heap.size + 1, 2, none⟩ (.int .i64 0)).setCell ⟨w.heap.size + 1, 3, none⟩ (.int .i64 0)).setCell ⟨w.heap.size + 1, 4, none⟩ (.int .i64 0)).setCell ⟨w.heap.size + 1, 5, none⟩ (.int .i64 0)).setCell ⟨w.heap.size + 1, 6, none⟩ (.int .i64 0)).setCell ⟨w.heap.size + 1, 7, none⟩ (.string ⟨#[]⟩)).setCell ⟨w.heap.size + 1, 8, none⟩ (.string ⟨#[]⟩)).setCell ⟨w.heap.size + 1, 9, none⟩ (.slice none 0 0)).setCell ⟨w.heap.size + 1, 10, none⟩ (.slice none 0 0)).setCell ⟨w.heap.size + 1, 11, none⟩ (.int .i64 0)).setCell ⟨w.heap.size + 1, 12, none⟩ (.bool false)).setCell ⟨w.heap.size + 1, 13, none⟩ (.string ⟨#[]⟩)) = w3 := ⟨_, rfl⟩
    obtain ⟨y3, g3, -⟩ := store14 y2 hw3
    have z3 := z2.grown g3 (fun e => by injection e with e; omega)
    obtain ⟨W, hW⟩ : ∃ W, ((((((((((((((w3.setCell ⟨w.heap.size, 0, none⟩ (.int .i64 0)).setCell ⟨w.heap.size, 1, none⟩ (.int .i64 0)).setCell ⟨w.heap.size, 2, none⟩ (.int .i64 0)).setCell ⟨w.heap.size, 3, none⟩ (.int .i64 0)).setCell ⟨w.heap.size, 4, none⟩ (.int .i64 0)).setCell ⟨w.heap.size, 5, none⟩ (.int .i64 0)).setCell ⟨w.heap.size, 6, none⟩ (.int .i64 0)).setCell ⟨w.heap.size, 7, none⟩ (.string ⟨#[]⟩)).setCell ⟨w.heap.size, 8, none⟩ (.string ⟨#[]⟩)).setCell ⟨w.heap.size, 9, none⟩ (.slice none 0 0)).setCell ⟨w.heap.size, 10, none⟩ (.slice none 0 0)).setCell ⟨w.heap.size, 11, none⟩ (.int .i64 0)).setCell ⟨w.heap.size, 12, none⟩ (.bool false)).setCell ⟨w.heap.size, 13, none⟩ (.string ⟨#[]⟩)) = W := ⟨_, rfl⟩
    obtain ⟨zW, gW, -⟩ := store14 z3 hW
    obtain ⟨⟨p0, p1, p2, p3, p4, p5, p6⟩, ⟨p7, p8⟩, ⟨p9, p10⟩, ⟨p11, p12, p13⟩⟩ := let_cells (L := zeroLet) zW
    have e0 : w2.cell? ⟨w.heap.size + 1, 0, none⟩ = some (.int .i64 0) := y2.cell 0
    have k0 : w2.frozen? ⟨w.heap.size + 1, 0, none⟩ = false := y2.frozen 0
    have e1 : w2.cell? ⟨w.heap.size + 1, 1, none⟩ = some (.int .i64 0) := y2.cell 1
    have k1 : w2.frozen? ⟨w.heap.size + 1, 1, none⟩ = false := y2.frozen 1
    have e2 : w2.cell? ⟨w.heap.size + 1, 2, none⟩ = some (.int .i64 0) := y2.cell 2
    have k2 : w2.frozen? ⟨w.heap.size + 1, 2, none⟩ = false := y2.frozen 2
    have e3 : w2.cell? ⟨w.heap.size + 1, 3, none⟩ = some (.int .i64 0) := y2.cell 3
    have k3 : w2.frozen? ⟨w.heap.size + 1, 3, none⟩ = false := y2.frozen 3
    have e4 : w2.cell? ⟨w.heap.size + 1, 4, none⟩ = some (.int .i64 0) := y2.cell 4
    have k4 : w2.frozen? ⟨w.heap.size + 1, 4, none⟩ = false := y2.frozen 4
    have e5 : w2.cell? ⟨w.heap.size + 1, 5, none⟩ = some (.int .i64 0) := y2.cell 5
    have k5 : w2.frozen? ⟨w.heap.size + 1, 5, none⟩ = false := y2.frozen 5
    have e6 : w2.cell? ⟨w.heap.size + 1, 6, none⟩ = some (.int .i64 0) := y2.cell 6
    have k6 : w2.frozen? ⟨w.heap.size + 1, 6, none⟩ = false := y2.frozen 6
    have e7 : w2.cell? ⟨w.heap.size + 1, 7, none⟩ = some (.string ⟨#[]⟩) := y2.cell 7
    have k7 : w2.frozen? ⟨w.heap.size + 1, 7, none⟩ = false := y2.frozen 7
    have e8 : w2.cell? ⟨w.heap.size + 1, 8, none⟩ = some (.string ⟨#[]⟩) := y2.cell 8
    have k8 : w2.frozen? ⟨w.heap.size + 1, 8, none⟩ = false := y2.frozen 8
    have e9 : w2.cell? ⟨w.heap.size + 1, 9, none⟩ = some (.slice none 0 0) := y2.cell 9
    have k9 : w2.frozen? ⟨w.heap.size + 1, 9, none⟩ = false := y2.frozen 9
    have e10 : w2.cell? ⟨w.heap.size + 1, 10, none⟩ = some (.slice none 0 0) := y2.cell 10
    have k10 : w2.frozen? ⟨w.heap.size + 1, 10, none⟩ = false := y2.frozen 10
    have e11 : w2.cell? ⟨w.heap.size + 1, 11, none⟩ = some (.int .i64 0) := y2.cell 11
    have k11 : w2.frozen? ⟨w.heap.size + 1, 11, none⟩ = false := y2.frozen 11
    have e12 : w2.cell? ⟨w.heap.size + 1, 12, none⟩ = some (.bool false) := y2.cell 12
    have k12 : w2.frozen? ⟨w.heap.size + 1, 12, none⟩ = false := y2.frozen 12
    have e13 : w2.cell? ⟨w.heap.size + 1, 13, none⟩ = some (.string ⟨#[]⟩) := y2.cell 13
    have k13 : w2.frozen? ⟨w.heap.size + 1, 13, none⟩ = false := y2.frozen 13
    have d0 : w3.cell? ⟨w.heap.size, 0, none⟩ = some (.int .i64 0) := z3.cell 0
    have f0 : w3.frozen? ⟨w.heap.size, 0, none⟩ = false := z3.frozen 0
    have d1 : w3.cell? ⟨w.heap.size, 1, none⟩ = some (.int .i64 0) := z3.cell 1
    have f1 : w3.frozen? ⟨w.heap.size, 1, none⟩ = false := z3.frozen 1
    have d2 : w3.cell? ⟨w.heap.size, 2, none⟩ = some (.int .i64 0) := z3.cell 2
    have f2 : w3.frozen? ⟨w.heap.size, 2, none⟩ = false := z3.frozen 2
    have d3 : w3.cell? ⟨w.heap.size, 3, none⟩ = some (.int .i64 0) := z3.cell 3
    have f3 : w3.frozen? ⟨w.heap.size, 3, none⟩ = false := z3.frozen 3
    have d4 : w3.cell? ⟨w.heap.size, 4, none⟩ = some (.int .i64 0) := z3.cell 4
    have f4 : w3.frozen? ⟨w.heap.size, 4, none⟩ = false := z3.frozen 4
    have d5 : w3.cell? ⟨w.heap.size, 5, none⟩ = some (.int .i64 0) := z3.cell 5
    have f5 : w3.frozen? ⟨w.heap.size, 5, none⟩ = false := z3.frozen 5
    have d6 : w3.cell? ⟨w.heap.size, 6, none⟩ = some (.int .i64 0) := z3.cell 6
    have f6 : w3.frozen? ⟨w.heap.size, 6, none⟩ = false := z3.frozen 6
    have d7 : w3.cell? ⟨w.heap.size, 7, none⟩ = some (.string ⟨#[]⟩) := z3.cell 7
    have f7 : w3.frozen? ⟨w.heap.size, 7, none⟩ = false := z3.frozen 7
    have d8 : w3.cell? ⟨w.heap.size, 8, none⟩ = some (.string ⟨#[]⟩) := z3.cell 8
    have f8 : w3.frozen? ⟨w.heap.size, 8, none⟩ = false := z3.frozen 8
    have d9 : w3.cell? ⟨w.heap.size, 9, none⟩ = some (.slice none 0 0) := z3.cell 9
    have f9 : w3.frozen? ⟨w.heap.size, 9, none⟩ = false := z3.frozen 9
    have d10 : w3.cell? ⟨w.heap.size, 10, none⟩ = some (.slice none 0 0) := z3.cell 10
    have f10 : w3.frozen? ⟨w.heap.size, 10, none⟩ = false := z3.frozen 10
    have d11 : w3.cell? ⟨w.heap.size, 11, none⟩ = some (.int .i64 0) := z3.cell 11
    have f11 : w3.frozen? ⟨w.heap.size, 11, none⟩ = false := z3.frozen 11
    have d12 : w3.cell? ⟨w.heap.size, 12, none⟩ = some (.bool false) := z3.cell 12
    have f12 : w3.frozen? ⟨w.heap.size, 12, none⟩ = false := z3.frozen 12
    have d13 : w3.cell? ⟨w.heap.size, 13, none⟩ = some (.string ⟨#[]⟩) := z3.cell 13
    have f13 : w3.frozen? ⟨w.heap.size, 13, none⟩ = false := z3.frozen 13
    have bw3 := bw.grown g3 bw.size (fun g hg => by injection hg with hg; omega)
    have HE := Lib.hid (And.intro ((h2.store14 g3 y2).store14 gW z3) (bw3.grown gW bw3.size (fun g hg => by injection hg with hg; omega)))
    have HG := Lib.hid hg
    clear l0 l1 h h0 h2 hk hg zW gW z2 b2 bw z0 b0 lt0 y2 y3 g3 z3 bw3
    unfold DelPost
    go_enter Try.func36, Try.ntmps36
    go_wp2
    refine bodyPost_ret (v := .tuple #[.agg #[.int .i64 0, .int .i64 0, .int .i64 0, .int .i64 0, .int .i64 0, .int .i64 0, .int .i64 0, .string ⟨#[]⟩, .string ⟨#[]⟩, .slice none 0 0, .slice none 0 0, .int .i64 0, .bool false, .string ⟨#[]⟩], .int .i64 7]) ?_ rfl (.inl ⟨HG.out, rfl, HE.out.1, HE.out.2⟩)
    simp [results, Try.results36, go_sem, p0, p1, p2, p3, p4, p5, p6, p7, p8, p9, p10, p11, p12, p13, zeroLet]
  | some e0 =>
    have hl := l1 e0 hg
    have hge := h.get hg
    obtain ⟨n, Ap, cp, Ai, ci, L⟩ := e0
    simp only at hl hge
    obtain ⟨w2, hw2⟩ : ∃ w2, ((w.alloc (.cells #[.int .i64 0, .int .i64 0, .int .i64 0, .int .i64 0, .int .i64 0, .int .i64 0, .int .i64 0, .string ⟨#[]⟩, .string ⟨#[]⟩, .slice none 0 0, .slice none 0 0, .int .i64 0, .bool false, .string ⟨#[]⟩] 69)).alloc (.cells #[.int .i64 L.kind, .int .i64 L.frm, .int .i64 L.to, .int .i64 L.a, .int .i64 L.b, .int .i64 L.c, .int .i64 L.d, .string L.s, .string L.t, .slice Ap L.ps.length cp, .slice Ai L.is.length ci, .int .i64 L.code, .bool L.yes, .string L.body] 69)) = w2 := ⟨_, rfl⟩
    have b2 : Below (w.alloc (.cells #[.int .i64 0, .int .i64 0, .int .i64 0, .int .i64 0, .int .i64 0, .int .i64 0, .int .i64 0, .string ⟨#[]⟩, .string ⟨#[]⟩, .slice none 0 0, .slice none 0 0, .int .i64 0, .bool false, .string ⟨#[]⟩] 69)).heap.size (w.alloc (.cells #[.int .i64 0, .int .i64 0, .int .i64 0, .int .i64 0, .int .i64 0, .int .i64 0, .int .i64 0, .string ⟨#[]⟩, .string ⟨#[]⟩, .slice none 0 0, .slice none 0 0, .int .i64 0, .bool false, .string ⟨#[]⟩] 69)) w2 := hw2 ▸ below_box _
    have y2 : Box w2 (w.heap.size + 1) 69 #[.int .i64 L.kind, .int .i64 L.frm, .int .i64 L.to, .int .i64 L.a, .int .i64 L.b, .int .i64 L.c, .int .i64 L.d, .string L.s, .string L.t, .slice Ap L.ps.length cp, .slice Ai L.is.length ci, .int .i64 L.code, .bool L.yes, .string L.body] := by
      have := Box.made (w.alloc (.cells #[.int .i64 0, .int .i64 0, .int .i64 0, .int .i64 0, .int .i64 0, .int .i64 0, .int .i64 0, .string ⟨#[]⟩, .string ⟨#[]⟩, .slice none 0 0, .slice none 0 0, .int .i64 0, .bool false, .string ⟨#[]⟩] 69)) 69 #[.int .i64 L.kind, .int .i64 L.frm, .int .i64 L.to, .int .i64 L.a, .int .i64 L.b, .int .i64 L.c, .int .i64 L.d, .string L.s, .string L.t, .slice Ap L.ps.length cp, .slice Ai L.is.length ci, .int .i64 L.code, .bool L.yes, .string L.body]
      rwa [World.size_alloc, hw2] at this
    have z2 := z0.below b2 lt0
    have h2 := h0.below b2
    have bw : Below w.heap.size w w2 := b0.trans (b2.mono (by simp))
    obtain ⟨q2, -, -, -⟩ := h2.cells
    obtain ⟨wM, hdl, mM, tM⟩ := h2.own.drop intKeyed Try.underlying122 (Maps.keyOf_int_mk Try.underlying3 hk) 0
    obtain ⟨hN, kN⟩ := NetAt.del h bw mM tM
    have yM := turnedN_box tM y2
    have zM := turnedN_box tM z2
    obtain ⟨⟨x0, x1, x2, x3, x4, x5, x6⟩, ⟨x7, x8⟩, ⟨x9, x10⟩, ⟨x11, x12, x13⟩⟩ := let_cells yM
    obtain ⟨W, hW⟩ : ∃ W, ((((((((((((((wM.setCell ⟨w.heap.size, 0, none⟩ (.int .i64 L.kind)).setCell ⟨w.heap.size, 1, none⟩ (.int .i64 L.frm)).setCell ⟨w.heap.size, 2, none⟩ (.int .i64 L.to)).setCell ⟨w.heap.size, 3, none⟩ (.int .i64 L.a)).setCell ⟨w.heap.size, 4, none⟩ (.int .i64 L.b)).setCell ⟨w.heap.size, 5, none⟩ (.int .i64 L.c)).setCell ⟨w.heap.size, 6, none⟩ (.int .i64 L.d)).setCell ⟨w.heap.size, 7, none⟩ (.string L.s)).setCell ⟨w.heap.size, 8, none⟩ (.string L.t)).setCell ⟨w.heap.size, 9, none⟩ (.slice Ap L.ps.length cp)).setCell ⟨w.heap.size, 10, none⟩ (.slice Ai L.is.length ci)).setCell ⟨w.heap.size, 11, none⟩ (.int .i64 L.code)).setCell ⟨w.heap.size, 12, none⟩ (.bool L.yes)).setCell ⟨w.heap.size, 13, none⟩ (.string L.body)) = W := ⟨_, rfl⟩
    obtain ⟨zW, gW, -⟩ := store14 zM hW
    obtain ⟨⟨p0, p1, p2, p3, p4, p5, p6⟩, ⟨p7, p8⟩, ⟨p9, p10⟩, ⟨p11, p12, p13⟩⟩ := let_cells zW
    have d0 : wM.cell? ⟨w.heap.size, 0, none⟩ = some (.int .i64 0) := zM.cell 0
    have f0 : wM.frozen? ⟨w.heap.size, 0, none⟩ = false := zM.frozen 0
    have d1 : wM.cell? ⟨w.heap.size, 1, none⟩ = some (.int .i64 0) := zM.cell 1
    have f1 : wM.frozen? ⟨w.heap.size, 1, none⟩ = false := zM.frozen 1
    have d2 : wM.cell? ⟨w.heap.size, 2, none⟩ = some (.int .i64 0) := zM.cell 2
    have f2 : wM.frozen? ⟨w.heap.size, 2, none⟩ = false := zM.frozen 2
    have d3 : wM.cell? ⟨w.heap.size, 3, none⟩ = some (.int .i64 0) := zM.cell 3
    have f3 : wM.frozen? ⟨w.heap.size, 3, none⟩ = false := zM.frozen 3
    have d4 : wM.cell? ⟨w.heap.size, 4, none⟩ = some (.int .i64 0) := zM.cell 4
    have f4 : wM.frozen? ⟨w.heap.size, 4, none⟩ = false := zM.frozen 4
    have d5 : wM.cell? ⟨w.heap.size, 5, none⟩ = some (.int .i64 0) := zM.cell 5
    have f5 : wM.frozen? ⟨w.heap.size, 5, none⟩ = false := zM.frozen 5
    have d6 : wM.cell? ⟨w.heap.size, 6, none⟩ = some (.int .i64 0) := zM.cell 6
    have f6 : wM.frozen? ⟨w.heap.size, 6, none⟩ = false := zM.frozen 6
    have d7 : wM.cell? ⟨w.heap.size, 7, none⟩ = some (.string ⟨#[]⟩) := zM.cell 7
    have f7 : wM.frozen? ⟨w.heap.size, 7, none⟩ = false := zM.frozen 7
    have d8 : wM.cell? ⟨w.heap.size, 8, none⟩ = some (.string ⟨#[]⟩) := zM.cell 8
    have f8 : wM.frozen? ⟨w.heap.size, 8, none⟩ = false := zM.frozen 8
    have d9 : wM.cell? ⟨w.heap.size, 9, none⟩ = some (.slice none 0 0) := zM.cell 9
    have f9 : wM.frozen? ⟨w.heap.size, 9, none⟩ = false := zM.frozen 9
    have d10 : wM.cell? ⟨w.heap.size, 10, none⟩ = some (.slice none 0 0) := zM.cell 10
    have f10 : wM.frozen? ⟨w.heap.size, 10, none⟩ = false := zM.frozen 10
    have d11 : wM.cell? ⟨w.heap.size, 11, none⟩ = some (.int .i64 0) := zM.cell 11
    have f11 : wM.frozen? ⟨w.heap.size, 11, none⟩ = false := zM.frozen 11
    have d12 : wM.cell? ⟨w.heap.size, 12, none⟩ = some (.bool false) := zM.cell 12
    have f12 : wM.frozen? ⟨w.heap.size, 12, none⟩ = false := zM.frozen 12
    have d13 : wM.cell? ⟨w.heap.size, 13, none⟩ = some (.string ⟨#[]⟩) := zM.cell 13
    have f13 : wM.frozen? ⟨w.heap.size, 13, none⟩ = false := zM.frozen 13
    have kW : Kept2 sb mb w W := ⟨gW.os.trans kN.os, gW.tape.trans kN.tape, gW.output.trans kN.output, Nat.le_trans kN.size gW.size, fun i hi a b => (gW.block i (Nat.lt_of_lt_of_le hi kN.size) (fun e => by injection e with e; omega)).trans (kN.block i hi a b)⟩
    have o1 : OwnLps W B (.slice Ap L.ps.length cp) L.ps := h.rowKept kW hge.2.1 typesN.1
    have o2 : OwnLis W B (.slice Ai L.is.length ci) L.is := h.rowKept kW hge.2.2 typesN.2
    have HE := Lib.hid (And.intro (hN.store14 gW zM) (And.intro (And.intro o1 o2) kW))
    have HG := Lib.hid hg
    clear l0 l1 h h0 h2 hk hg zW gW z2 b2 bw z0 b0 lt0 hN kN yM zM y2 mM tM kW o1 o2 hge
    unfold DelPost
    go_enter Try.func36, Try.ntmps36
    go_wp2
    refine bodyPost_ret (v := .tuple #[.agg #[.int .i64 L.kind, .int .i64 L.frm, .int .i64 L.to, .int .i64 L.a, .int .i64 L.b, .int .i64 L.c, .int .i64 L.d, .string L.s, .string L.t, .slice Ap L.ps.length cp, .slice Ai L.is.length ci, .int .i64 L.code, .bool L.yes, .string L.body], .int .i64 0]) ?_ rfl (.inr ⟨_, HG.out, rfl, HE.out.1, HE.out.2.1, HE.out.2.2⟩)
    simp [results, Try.results36, go_sem, p0, p1, p2, p3, p4, p5, p6, p7, p8, p9, p10, p11, p12, p13]
end
end Go.Proofs.Ytaljojjpgkmiiaa

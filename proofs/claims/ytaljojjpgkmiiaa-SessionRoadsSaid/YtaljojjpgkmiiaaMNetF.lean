/- Package net: Drop and Look. Condition: the net is in memory. -/
import Derived.Test.YtaljojjpgkmiiaaMNetE
namespace Go.Proofs.Ytaljojjpgkmiiaa
open Go.RowKit

def DropPost (B sb mb : Nat) (E : List NEn) (d : Nat) (k : Int) (w : World) (e : Ending) (w' : World) : Prop :=
  (getN k E = none ∧ e = .returned (.int .i64 7) ∧ NetAt w' B sb mb E d ∧ Below w.heap.size w w') ∨
  (∃ e0, getN k E = some e0 ∧ e = .returned (.int .i64 0) ∧ NetAt w' B sb mb (delN k E) d ∧ Kept2 sb mb w w')
def lookL (k : Int) (E : List NEn) : Let := match getN k E with | some e => e.L | none => zeroLet
def LookPost (B sb mb : Nat) (E : List NEn) (d : Nat) (k : Int) (w : World) (e : Ending) (w' : World) : Prop :=
  ∃ (Ap : Option Addr) (cp : Nat) (Ai : Option Addr) (ci : Nat), e = .returned (.tuple #[.agg #[.int .i64 (lookL k E).kind, .int .i64 (lookL k E).frm, .int .i64 (lookL k E).to, .int .i64 (lookL k E).a, .int .i64 (lookL k E).b, .int .i64 (lookL k E).c, .int .i64 (lookL k E).d, .string (lookL k E).s, .string (lookL k E).t, .slice Ap (lookL k E).ps.length cp, .slice Ai (lookL k E).is.length ci, .int .i64 (lookL k E).code, .bool (lookL k E).yes, .string (lookL k E).body], .bool (getN k E).isSome]) ∧
    OwnLps w' w.heap.size (.slice Ap (lookL k E).ps.length cp) (lookL k E).ps ∧ OwnLis w' w.heap.size (.slice Ai (lookL k E).is.length ci) (lookL k E).is ∧ NetAt w' B sb mb E d ∧ Below w.heap.size w w'
section
variable {w : World} {B sb mb d : Nat} {E : List NEn}
theorem netDrop_any (h : NetAt w B sb mb E d) (k : Int) (hk : (Lit.int .i64 k).wf = true) :
    Calls Try.prog 38 #[.pointer (some ⟨sb, 0, none⟩), .int .i64 k] w (DropPost B sb mb E d k w) := by
  have Hd := Lib.hid (netDeliver_any h k hk)
  clear h
  go_enter Try.func38, Try.ntmps38
  go_wp2_with fail
  refine Hd.out.mono ?_
  rintro e w2 hp
  clear Hd
  rcases hp with ⟨hg, rfl, h2, b2⟩ | ⟨e0, hg, rfl, h2, -, k2⟩
  · have HE := Lib.hid (And.intro hg (And.intro (h2.below (below_box (.cells #[.int .i64 0, .int .i64 0, .int .i64 0, .int .i64 0, .int .i64 0, .int .i64 0, .int .i64 0, .string ⟨#[]⟩, .string ⟨#[]⟩, .slice none 0 0, .slice none 0 0, .int .i64 0, .bool false, .string ⟨#[]⟩] 69))) (b2.trans ((below_box (w := w2) (.cells #[.int .i64 0, .int .i64 0, .int .i64 0, .int .i64 0, .int .i64 0, .int .i64 0, .int .i64 0, .string ⟨#[]⟩, .string ⟨#[]⟩, .slice none 0 0, .slice none 0 0, .int .i64 0, .bool false, .string ⟨#[]⟩] 69)).mono b2.size))))
    clear hg h2 b2
    go_wp2
    go_ret
    exact .inl ⟨HE.out.1, rfl, HE.out.2.1, HE.out.2.2⟩
  · obtain ⟨n, Ap, cp, Ai, ci, L⟩ := e0
    have HE := Lib.hid (And.intro hg (And.intro (h2.below (below_box (.cells #[.int .i64 L.kind, .int .i64 L.frm, .int .i64 L.to, .int .i64 L.a, .int .i64 L.b, .int .i64 L.c, .int .i64 L.d, .string L.s, .string L.t, .slice Ap L.ps.length cp, .slice Ai L.is.length ci, .int .i64 L.code, .bool L.yes, .string L.body] 69))) (k2.trans (Kept2.of (below_box (w := w2) (.cells #[.int .i64 L.kind, .int .i64 L.frm, .int .i64 L.to, .int .i64 L.a, .int .i64 L.b, .int .i64 L.c, .int .i64 L.d, .string L.s, .string L.t, .slice Ap L.ps.length cp, .slice Ai L.is.length ci, .int .i64 L.code, .bool L.yes, .string L.body] 69))))))
    clear hg h2 k2
    go_wp2
    go_ret
    exact .inr ⟨_, HE.out.1, rfl, HE.out.2.1, HE.out.2.2⟩
set_option maxRecDepth 100000 in
set_option maxHeartbeats 6400000 in
theorem netLook_any (h : NetAt w B sb mb E d) (k : Int) (hk : (Lit.int .i64 k).wf = true) :
    Calls Try.prog 49 #[.pointer (some ⟨sb, 0, none⟩), .int .i64 k] w (LookPost B sb mb E d k w) := by
  have b0 := below_box (w := w) (.cells #[.int .i64 0, .int .i64 0, .int .i64 0, .int .i64 0, .int .i64 0, .int .i64 0, .int .i64 0, .string ⟨#[]⟩, .string ⟨#[]⟩, .slice none 0 0, .slice none 0 0, .int .i64 0, .bool false, .string ⟨#[]⟩] 69)
  have z0 := Box.made w 69 #[.int .i64 0, .int .i64 0, .int .i64 0, .int .i64 0, .int .i64 0, .int .i64 0, .int .i64 0, .string ⟨#[]⟩, .string ⟨#[]⟩, .slice none 0 0, .slice none 0 0, .int .i64 0, .bool false, .string ⟨#[]⟩]
  have h0 := h.below b0
  obtain ⟨q0, -, -, -⟩ := h0.cells
  obtain ⟨l0, l1⟩ := h0.look k hk
  have lt0 := z0.lt
  cases hg : getN k E with
  | none =>
    have hl := l0 hg
    obtain ⟨Z, hZ⟩ : ∃ Z, zeroLet = Z := ⟨_, rfl⟩
    have HG : Hid (lookL k E = Z ∧ (getN k E).isSome = false) := Lib.hid ⟨by unfold lookL; rw [hg]; exact hZ, by rw [hg]; rfl⟩
    obtain ⟨w2, hw2⟩ : ∃ w2, ((w.alloc (.cells #[.int .i64 0, .int .i64 0, .int .i64 0, .int .i64 0, .int .i64 0, .int .i64 0, .int .i64 0, .string ⟨#[]⟩, .string ⟨#[]⟩, .slice none 0 0, .slice none 0 0, .int .i64 0, .bool false, .string ⟨#[]⟩] 69)).alloc (.cells #[.int .i64 0, .int .i64 0, .int .i64 0, .int .i64 0, .int .i64 0, .int .i64 0, .int .i64 0, .string ⟨#[]⟩, .string ⟨#[]⟩, .slice none 0 0, .slice none 0 0, .int .i64 0, .bool false, .string ⟨#[]⟩] 69)) = w2 := ⟨_, rfl⟩
    have b2 : Below (w.alloc (.cells #[.int .i64 0, .int .i64 0, .int .i64 0, .int .i64 0, .int .i64 0, .int .i64 0, .int .i64 0, .string ⟨#[]⟩, .string ⟨#[]⟩, .slice none 0 0, .slice none 0 0, .int .i64 0, .bool false, .string ⟨#[]⟩] 69)).heap.size (w.alloc (.cells #[.int .i64 0, .int .i64 0, .int .i64 0, .int .i64 0, .int .i64 0, .int .i64 0, .int .i64 0, .string ⟨#[]⟩, .string ⟨#[]⟩, .slice none 0 0, .slice none 0 0, .int .i64 0, .bool false, .string ⟨#[]⟩] 69)) w2 := hw2 ▸ below_box _
    have z2 := z0.below b2 lt0
    have h2 := h0.below b2
    have bw : Below w.heap.size w w2 := b0.trans (b2.mono (by simp))
    have y2 : Box w2 (w.heap.size + 1) 69 #[.int .i64 0, .int .i64 0, .int .i64 0, .int .i64 0, .int .i64 0, .int .i64 0, .int .i64 0, .string ⟨#[]⟩, .string ⟨#[]⟩, .slice none 0 0, .slice none 0 0, .int .i64 0, .bool false, .string ⟨#[]⟩] := by
      have := Box.made (w.alloc (.cells #[.int .i64 0, .int .i64 0, .int .i64 0, .int .i64 0, .int .i64 0, .int .i64 0, .int .i64 0, .string ⟨#[]⟩, .string ⟨#[]⟩, .slice none 0 0, .slice none 0 0, .int .i64 0, .bool false, .string ⟨#[]⟩] 69)) 69 #[.int .i64 0, .int .i64 0, .int .i64 0, .int .i64 0, .int .i64 0, .int .i64 0, .int .i64 0, .string ⟨#[]⟩, .string ⟨#[]⟩, .slice none 0 0, .slice none 0 0, .int .i64 0, .bool false, .string ⟨#[]⟩]
      rwa [World.size_alloc, hw2] at this
    obtain ⟨w3, hw3⟩ : ∃ w3, ((((((((((((((w2.setCell ⟨w.heap.size + 1, 0, none⟩ (.int .i64 0)).setCell ⟨w.heap.size + 1, 1, none⟩ (.int .i64 0)).setCell ⟨w.heap.size + 1, 2, none⟩ (.int .i64 0)).setCell ⟨w.heap.size + 1, 3, none⟩ (.int .i64 0)).setCell ⟨w.heap.size + 1, 4, none⟩ (.int .i64 0)).setCell ⟨w.heap.size + 1, 5, none⟩ (.int .i64 0)).setCell ⟨w.heap.size + 1, 6, none⟩ (.int .i64 0)).setCell ⟨w.heap.size + 1, 7, none⟩ (.string ⟨#[]⟩)).setCell ⟨w.heap.size + 1, 8, none⟩ (.string ⟨#[]⟩)).setCell ⟨w.heap.size + 1, 9, none⟩ (.slice none 0 0)).setCell ⟨w.heap.size + 1, 10, none⟩ (.slice none 0 0)).setCell ⟨w.heap.size + 1, 11, none⟩ (.int .i64 0)).setCell ⟨w.heap.size + 1, 12, none⟩ (.bool false)).setCell ⟨w.heap.size + 1, 13, none⟩ (.string ⟨#[]⟩)) = w3 := ⟨_, rfl⟩
    obtain ⟨y3, g3, -⟩ := store14 y2 hw3
    have z3 := z2.grown g3 (fun e => by injection e with e; omega)
    have h3 := h2.store14 g3 y2
    have bw3 := bw.grown g3 bw.size (fun g hg => by injection hg with hg; omega)
    have e0 : w2.cell? ⟨w.heap.size + 1, 0, none⟩ = some (.int .i64 0) := y2.cell 0
    have k0 : w2.frozen? ⟨w.heap.size + 1, 0, none⟩ = false := y2.frozen 0
    have e1 : w2.cell? ⟨w.heap.size + 1, 1, none⟩ = some (.int .i64 0) := y2.cell 1
    have k1 : w2.frozen? ⟨w.heap.size + 1, 1, none⟩ = false := y2.frozen 1
    have e2 : w2.cell? ⟨w.heap.size + 1, 2, none⟩ = some (.int .i64 0) := y2.cell 2
    have k2 : w2.frozen? ⟨w.heap.size + 1, 2, none⟩ = false := y2.frozen 2
    have e3 : w2.cell? ⟨w.heap.size + 1, 3, none⟩ = some (.int .i64 0) := y2.cell 3
    have k3 : w2.frozen? ⟨w.heap.size + 1, 3, none⟩ = false := y2.frozen 3
    have e4 : w2.cell? ⟨w.heap.size + 1, 4, none⟩ = some (.int .i64 0) := y2.cell 4
    have k4 : w2.frozen? ⟨w.heap.size + 1, 4, none⟩ = false := y2.frozen 4
    have e5 : w2.cell? ⟨w.heap.size + 1, 5, none⟩ = some (.int .i64 0) := y2.cell 5
    have k5 : w2.frozen? ⟨w.heap.size + 1, 5, none⟩ = false := y2.frozen 5
    have e6 : w2.cell? ⟨w.heap.size + 1, 6, none⟩ = some (.int .i64 0) := y2.cell 6
    have k6 : w2.frozen? ⟨w.heap.size + 1, 6, none⟩ = false := y2.frozen 6
    have e7 : w2.cell? ⟨w.heap.size + 1, 7, none⟩ = some (.string ⟨#[]⟩) := y2.cell 7
    have k7 : w2.frozen? ⟨w.heap.size + 1, 7, none⟩ = false := y2.frozen 7
    have e8 : w2.cell? ⟨w.heap.size + 1, 8, none⟩ = some (.string ⟨#[]⟩) := y2.cell 8
    have k8 : w2.frozen? ⟨w.heap.size + 1, 8, none⟩ = false := y2.frozen 8
    have e9 : w2.cell? ⟨w.heap.size + 1, 9, none⟩ = some (.slice none 0 0) := y2.cell 9
    have k9 : w2.frozen? ⟨w.heap.size + 1, 9, none⟩ = false := y2.frozen 9
    have e10 : w2.cell? ⟨w.heap.size + 1, 10, none⟩ = some (.slice none 0 0) := y2.cell 10
    have k10 : w2.frozen? ⟨w.heap.size + 1, 10, none⟩ = false := y2.frozen 10
    have e11 : w2.cell? ⟨w.heap.size + 1, 11, none⟩ = some (.int .i64 0) := y2.cell 11
    have k11 : w2.frozen? ⟨w.heap.size + 1, 11, none⟩ = false := y2.frozen 11
    have e12 : w2.cell? ⟨w.heap.size + 1, 12, none⟩ = some (.bool false) := y2.cell 12
    have k12 : w2.frozen? ⟨w.heap.size + 1, 12, none⟩ = false := y2.frozen 12
    have e13 : w2.cell? ⟨w.heap.size + 1, 13, none⟩ = some (.string ⟨#[]⟩) := y2.cell 13
    have k13 : w2.frozen? ⟨w.heap.size + 1, 13, none⟩ = false := y2.frozen 13
    have HC : Hid (Calls Try.prog 59 #[.agg #[.int .i64 0, .int .i64 0, .int .i64 0, .int .i64 0, .int .i64 0, .int .i64 0, .int .i64 0, .string ⟨#[]⟩, .string ⟨#[]⟩, .slice none 0 0, .slice none 0 0, .int .i64 0, .bool false, .string ⟨#[]⟩]] w3 (CopyPost Z w3)) := Lib.hid (by
      subst hZ
      exact copy_any zeroLet none 0 0 none 0 0 w3.heap.size w3 (HasLps.nil _ _ _) (HasLis.nil _ _ _) (Nat.le_refl _) ⟨by omega, by omega⟩ (by intro s hs; simp [Let.txts, zeroLet] at hs; subst hs; exact Nat.zero_le _) (by intro p hp; simp [zeroLet] at hp) (by intro p hp; simp [zeroLet] at hp))
    obtain ⟨⟨x0, x1, x2, x3, x4, x5, x6⟩, ⟨x7, x8⟩, ⟨x9, x10⟩, ⟨x11, x12, x13⟩⟩ := let_cells (L := zeroLet) y3
    have HB3 := Lib.hid (And.intro bw3 (And.intro z3 h3))
    clear l0 l1 h h0 h2 hk hg z2 b2 bw z0 b0 lt0 y2 y3 g3 z3 bw3 h3 hZ
    unfold LookPost
    go_enter Try.func49, Try.ntmps49
    go_wp2_with fail
    refine HC.out.mono ?_
    rintro e w4 ⟨Av, cv, Iv, dv, rfl, oP, oI, b4⟩
    have z4 := HB3.out.2.1.below b4 HB3.out.2.1.lt
    have bw4 := HB3.out.1.trans (b4.mono HB3.out.1.size)
    have h4 := HB3.out.2.2.below b4
    obtain ⟨W, hW⟩ : ∃ W, ((((((((((((((w4.setCell ⟨w.heap.size, 0, none⟩ (.int .i64 Z.kind)).setCell ⟨w.heap.size, 1, none⟩ (.int .i64 Z.frm)).setCell ⟨w.heap.size, 2, none⟩ (.int .i64 Z.to)).setCell ⟨w.heap.size, 3, none⟩ (.int .i64 Z.a)).setCell ⟨w.heap.size, 4, none⟩ (.int .i64 Z.b)).setCell ⟨w.heap.size, 5, none⟩ (.int .i64 Z.c)).setCell ⟨w.heap.size, 6, none⟩ (.int .i64 Z.d)).setCell ⟨w.heap.size, 7, none⟩ (.string Z.s)).setCell ⟨w.heap.size, 8, none⟩ (.string Z.t)).setCell ⟨w.heap.size, 9, none⟩ (.slice Av Z.ps.length cv)).setCell ⟨w.heap.size, 10, none⟩ (.slice Iv Z.is.length dv)).setCell ⟨w.heap.size, 11, none⟩ (.int .i64 Z.code)).setCell ⟨w.heap.size, 12, none⟩ (.bool Z.yes)).setCell ⟨w.heap.size, 13, none⟩ (.string Z.body)) = W := ⟨_, rfl⟩
    obtain ⟨zW, gW, -⟩ := store14 z4 hW
    obtain ⟨⟨p0, p1, p2, p3, p4, p5, p6⟩, ⟨p7, p8⟩, ⟨p9, p10⟩, ⟨p11, p12, p13⟩⟩ := let_cells zW
    have d0 : w4.cell? ⟨w.heap.size, 0, none⟩ = some (.int .i64 0) := z4.cell 0
    have f0 : w4.frozen? ⟨w.heap.size, 0, none⟩ = false := z4.frozen 0
    have d1 : w4.cell? ⟨w.heap.size, 1, none⟩ = some (.int .i64 0) := z4.cell 1
    have f1 : w4.frozen? ⟨w.heap.size, 1, none⟩ = false := z4.frozen 1
    have d2 : w4.cell? ⟨w.heap.size, 2, none⟩ = some (.int .i64 0) := z4.cell 2
    have f2 : w4.frozen? ⟨w.heap.size, 2, none⟩ = false := z4.frozen 2
    have d3 : w4.cell? ⟨w.heap.size, 3, none⟩ = some (.int .i64 0) := z4.cell 3
    have f3 : w4.frozen? ⟨w.heap.size, 3, none⟩ = false := z4.frozen 3
    have d4 : w4.cell? ⟨w.heap.size, 4, none⟩ = some (.int .i64 0) := z4.cell 4
    have f4 : w4.frozen? ⟨w.heap.size, 4, none⟩ = false := z4.frozen 4
    have d5 : w4.cell? ⟨w.heap.size, 5, none⟩ = some (.int .i64 0) := z4.cell 5
    have f5 : w4.frozen? ⟨w.heap.size, 5, none⟩ = false := z4.frozen 5
    have d6 : w4.cell? ⟨w.heap.size, 6, none⟩ = some (.int .i64 0) := z4.cell 6
    have f6 : w4.frozen? ⟨w.heap.size, 6, none⟩ = false := z4.frozen 6
    have d7 : w4.cell? ⟨w.heap.size, 7, none⟩ = some (.string ⟨#[]⟩) := z4.cell 7
    have f7 : w4.frozen? ⟨w.heap.size, 7, none⟩ = false := z4.frozen 7
    have d8 : w4.cell? ⟨w.heap.size, 8, none⟩ = some (.string ⟨#[]⟩) := z4.cell 8
    have f8 : w4.frozen? ⟨w.heap.size, 8, none⟩ = false := z4.frozen 8
    have d9 : w4.cell? ⟨w.heap.size, 9, none⟩ = some (.slice none 0 0) := z4.cell 9
    have f9 : w4.frozen? ⟨w.heap.size, 9, none⟩ = false := z4.frozen 9
    have d10 : w4.cell? ⟨w.heap.size, 10, none⟩ = some (.slice none 0 0) := z4.cell 10
    have f10 : w4.frozen? ⟨w.heap.size, 10, none⟩ = false := z4.frozen 10
    have d11 : w4.cell? ⟨w.heap.size, 11, none⟩ = some (.int .i64 0) := z4.cell 11
    have f11 : w4.frozen? ⟨w.heap.size, 11, none⟩ = false := z4.frozen 11
    have d12 : w4.cell? ⟨w.heap.size, 12, none⟩ = some (.bool false) := z4.cell 12
    have f12 : w4.frozen? ⟨w.heap.size, 12, none⟩ = false := z4.frozen 12
    have d13 : w4.cell? ⟨w.heap.size, 13, none⟩ = some (.string ⟨#[]⟩) := z4.cell 13
    have f13 : w4.frozen? ⟨w.heap.size, 13, none⟩ = false := z4.frozen 13
    have hs3 : w.heap.size < w3.heap.size := HB3.out.2.1.lt
    have HE := Lib.hid (And.intro (own_baseN (own_grownL oP gW (by omega)) (by omega : w.heap.size ≤ w3.heap.size + 1)) (And.intro (own_baseN (own_grownL oI gW (by omega)) (by omega : w.heap.size ≤ w3.heap.size + 1)) (And.intro (h4.store14 gW z4) (bw4.grown gW bw4.size (fun g hg => by injection hg with hg; omega)))))
    clear zW gW z4 b4 bw4 h4 oP oI x0 x1 x2 x3 x4 x5 x6 x7 x8 x9 x10 x11 x12 x13 HB3 HC
    go_wp2
    refine bodyPost_ret (v := .tuple #[.agg #[.int .i64 Z.kind, .int .i64 Z.frm, .int .i64 Z.to, .int .i64 Z.a, .int .i64 Z.b, .int .i64 Z.c, .int .i64 Z.d, .string Z.s, .string Z.t, .slice Av Z.ps.length cv, .slice Iv Z.is.length dv, .int .i64 Z.code, .bool Z.yes, .string Z.body], .bool false]) ?_ rfl ⟨Av, cv, Iv, dv, by rw [HG.out.1, HG.out.2], by rw [HG.out.1]; exact HE.out.1, by rw [HG.out.1]; exact HE.out.2.1, HE.out.2.2.1, HE.out.2.2.2⟩
    simp [results, Try.results49, go_sem, p0, p1, p2, p3, p4, p5, p6, p7, p8, p9, p10, p11, p12, p13]
  | some e0 =>
    have hl := l1 e0 hg
    have hge := h.get hg
    have hst := h.rowsStay hge.2
    obtain ⟨n, Ap, cp, Ai, ci, L⟩ := e0
    simp only at hl hge hst
    have HG : Hid (lookL k E = L ∧ (getN k E).isSome = true) := Lib.hid ⟨by unfold lookL; rw [hg], by rw [hg]; rfl⟩
    obtain ⟨w3, hw3⟩ : ∃ w3, ((w.alloc (.cells #[.int .i64 0, .int .i64 0, .int .i64 0, .int .i64 0, .int .i64 0, .int .i64 0, .int .i64 0, .string ⟨#[]⟩, .string ⟨#[]⟩, .slice none 0 0, .slice none 0 0, .int .i64 0, .bool false, .string ⟨#[]⟩] 69)).alloc (.cells #[.int .i64 L.kind, .int .i64 L.frm, .int .i64 L.to, .int .i64 L.a, .int .i64 L.b, .int .i64 L.c, .int .i64 L.d, .string L.s, .string L.t, .slice Ap L.ps.length cp, .slice Ai L.is.length ci, .int .i64 L.code, .bool L.yes, .string L.body] 69)) = w3 := ⟨_, rfl⟩
    have b3 : Below (w.alloc (.cells #[.int .i64 0, .int .i64 0, .int .i64 0, .int .i64 0, .int .i64 0, .int .i64 0, .int .i64 0, .string ⟨#[]⟩, .string ⟨#[]⟩, .slice none 0 0, .slice none 0 0, .int .i64 0, .bool false, .string ⟨#[]⟩] 69)).heap.size (w.alloc (.cells #[.int .i64 0, .int .i64 0, .int .i64 0, .int .i64 0, .int .i64 0, .int .i64 0, .int .i64 0, .string ⟨#[]⟩, .string ⟨#[]⟩, .slice none 0 0, .slice none 0 0, .int .i64 0, .bool false, .string ⟨#[]⟩] 69)) w3 := hw3 ▸ below_box _
    have y3 : Box w3 (w.heap.size + 1) 69 #[.int .i64 L.kind, .int .i64 L.frm, .int .i64 L.to, .int .i64 L.a, .int .i64 L.b, .int .i64 L.c, .int .i64 L.d, .string L.s, .string L.t, .slice Ap L.ps.length cp, .slice Ai L.is.length ci, .int .i64 L.code, .bool L.yes, .string L.body] := by
      have := Box.made (w.alloc (.cells #[.int .i64 0, .int .i64 0, .int .i64 0, .int .i64 0, .int .i64 0, .int .i64 0, .int .i64 0, .string ⟨#[]⟩, .string ⟨#[]⟩, .slice none 0 0, .slice none 0 0, .int .i64 0, .bool false, .string ⟨#[]⟩] 69)) 69 #[.int .i64 L.kind, .int .i64 L.frm, .int .i64 L.to, .int .i64 L.a, .int .i64 L.b, .int .i64 L.c, .int .i64 L.d, .string L.s, .string L.t, .slice Ap L.ps.length cp, .slice Ai L.is.length ci, .int .i64 L.code, .bool L.yes, .string L.body]
      rwa [World.size_alloc, hw3] at this
    have z3 := z0.below b3 lt0
    have h3 := h0.below b3
    have bw3 : Below w.heap.size w w3 := b0.trans (b3.mono (by simp))
    have HC : Hid (Calls Try.prog 59 #[.agg #[.int .i64 L.kind, .int .i64 L.frm, .int .i64 L.to, .int .i64 L.a, .int .i64 L.b, .int .i64 L.c, .int .i64 L.d, .string L.s, .string L.t, .slice Ap L.ps.length cp, .slice Ai L.is.length ci, .int .i64 L.code, .bool L.yes, .string L.body]] w3 (CopyPost L w3)) := Lib.hid (by
      obtain ⟨a, b⟩ := hst w3 (Kept2.of bw3)
      obtain ⟨-, n1, n2, n3⟩ := err_zero.1 hge.1
      obtain ⟨s1, s2, s3⟩ := let_small n3
      exact copy_any L Ap L.ps.length cp Ai L.is.length ci w3.heap.size w3 a b (Nat.le_refl _) ⟨by omega, by omega⟩ (fun s hs => Nat.le_trans (s1 s hs) (by omega)) (fun p hp => ⟨Nat.le_trans (s2 p hp).1 (by omega), Nat.le_trans (s2 p hp).2 (by omega)⟩) (fun p hp => Nat.le_trans (s3 p hp) (by omega)))
    obtain ⟨⟨x0, x1, x2, x3, x4, x5, x6⟩, ⟨x7, x8⟩, ⟨x9, x10⟩, ⟨x11, x12, x13⟩⟩ := let_cells y3
    have HB3 := Lib.hid (And.intro bw3 (And.intro z3 h3))
    clear l0 l1 h h0 hk hg b3 z0 b0 lt0 y3 z3 bw3 h3 hge hst
    unfold LookPost
    go_enter Try.func49, Try.ntmps49
    go_wp2_with fail
    refine HC.out.mono ?_
    rintro e w4 ⟨Av, cv, Iv, dv, rfl, oP, oI, b4⟩
    have z4 := HB3.out.2.1.below b4 HB3.out.2.1.lt
    have bw4 := HB3.out.1.trans (b4.mono HB3.out.1.size)
    have h4 := HB3.out.2.2.below b4
    obtain ⟨W, hW⟩ : ∃ W, ((((((((((((((w4.setCell ⟨w.heap.size, 0, none⟩ (.int .i64 L.kind)).setCell ⟨w.heap.size, 1, none⟩ (.int .i64 L.frm)).setCell ⟨w.heap.size, 2, none⟩ (.int .i64 L.to)).setCell ⟨w.heap.size, 3, none⟩ (.int .i64 L.a)).setCell ⟨w.heap.size, 4, none⟩ (.int .i64 L.b)).setCell ⟨w.heap.size, 5, none⟩ (.int .i64 L.c)).setCell ⟨w.heap.size, 6, none⟩ (.int .i64 L.d)).setCell ⟨w.heap.size, 7, none⟩ (.string L.s)).setCell ⟨w.heap.size, 8, none⟩ (.string L.t)).setCell ⟨w.heap.size, 9, none⟩ (.slice Av L.ps.length cv)).setCell ⟨w.heap.size, 10, none⟩ (.slice Iv L.is.length dv)).setCell ⟨w.heap.size, 11, none⟩ (.int .i64 L.code)).setCell ⟨w.heap.size, 12, none⟩ (.bool L.yes)).setCell ⟨w.heap.size, 13, none⟩ (.string L.body)) = W := ⟨_, rfl⟩
    obtain ⟨zW, gW, -⟩ := store14 z4 hW
    obtain ⟨⟨p0, p1, p2, p3, p4, p5, p6⟩, ⟨p7, p8⟩, ⟨p9, p10⟩, ⟨p11, p12, p13⟩⟩ := let_cells zW
    have d0 : w4.cell? ⟨w.heap.size, 0, none⟩ = some (.int .i64 0) := z4.cell 0
    have f0 : w4.frozen? ⟨w.heap.size, 0, none⟩ = false := z4.frozen 0
    have d1 : w4.cell? ⟨w.heap.size, 1, none⟩ = some (.int .i64 0) := z4.cell 1
    have f1 : w4.frozen? ⟨w.heap.size, 1, none⟩ = false := z4.frozen 1
    have d2 : w4.cell? ⟨w.heap.size, 2, none⟩ = some (.int .i64 0) := z4.cell 2
    have f2 : w4.frozen? ⟨w.heap.size, 2, none⟩ = false := z4.frozen 2
    have d3 : w4.cell? ⟨w.heap.size, 3, none⟩ = some (.int .i64 0) := z4.cell 3
    have f3 : w4.frozen? ⟨w.heap.size, 3, none⟩ = false := z4.frozen 3
    have d4 : w4.cell? ⟨w.heap.size, 4, none⟩ = some (.int .i64 0) := z4.cell 4
    have f4 : w4.frozen? ⟨w.heap.size, 4, none⟩ = false := z4.frozen 4
    have d5 : w4.cell? ⟨w.heap.size, 5, none⟩ = some (.int .i64 0) := z4.cell 5
    have f5 : w4.frozen? ⟨w.heap.size, 5, none⟩ = false := z4.frozen 5
    have d6 : w4.cell? ⟨w.heap.size, 6, none⟩ = some (.int .i64 0) := z4.cell 6
    have f6 : w4.frozen? ⟨w.heap.size, 6, none⟩ = false := z4.frozen 6
    have d7 : w4.cell? ⟨w.heap.size, 7, none⟩ = some (.string ⟨#[]⟩) := z4.cell 7
    have f7 : w4.frozen? ⟨w.heap.size, 7, none⟩ = false := z4.frozen 7
    have d8 : w4.cell? ⟨w.heap.size, 8, none⟩ = some (.string ⟨#[]⟩) := z4.cell 8
    have f8 : w4.frozen? ⟨w.heap.size, 8, none⟩ = false := z4.frozen 8
    have d9 : w4.cell? ⟨w.heap.size, 9, none⟩ = some (.slice none 0 0) := z4.cell 9
    have f9 : w4.frozen? ⟨w.heap.size, 9, none⟩ = false := z4.frozen 9
    have d10 : w4.cell? ⟨w.heap.size, 10, none⟩ = some (.slice none 0 0) := z4.cell 10
    have f10 : w4.frozen? ⟨w.heap.size, 10, none⟩ = false := z4.frozen 10
    have d11 : w4.cell? ⟨w.heap.size, 11, none⟩ = some (.int .i64 0) := z4.cell 11
    have f11 : w4.frozen? ⟨w.heap.size, 11, none⟩ = false := z4.frozen 11
    have d12 : w4.cell? ⟨w.heap.size, 12, none⟩ = some (.bool false) := z4.cell 12
    have f12 : w4.frozen? ⟨w.heap.size, 12, none⟩ = false := z4.frozen 12
    have d13 : w4.cell? ⟨w.heap.size, 13, none⟩ = some (.string ⟨#[]⟩) := z4.cell 13
    have f13 : w4.frozen? ⟨w.heap.size, 13, none⟩ = false := z4.frozen 13
    have hs3 : w.heap.size < w3.heap.size := HB3.out.2.1.lt
    have HE := Lib.hid (And.intro (own_baseN (own_grownL oP gW (by omega)) (by omega : w.heap.size ≤ w3.heap.size + 1)) (And.intro (own_baseN (own_grownL oI gW (by omega)) (by omega : w.heap.size ≤ w3.heap.size + 1)) (And.intro (h4.store14 gW z4) (bw4.grown gW bw4.size (fun g hg => by injection hg with hg; omega)))))
    clear zW gW z4 b4 bw4 h4 oP oI x0 x1 x2 x3 x4 x5 x6 x7 x8 x9 x10 x11 x12 x13 HB3 HC
    go_wp2
    refine bodyPost_ret (v := .tuple #[.agg #[.int .i64 L.kind, .int .i64 L.frm, .int .i64 L.to, .int .i64 L.a, .int .i64 L.b, .int .i64 L.c, .int .i64 L.d, .string L.s, .string L.t, .slice Av L.ps.length cv, .slice Iv L.is.length dv, .int .i64 L.code, .bool L.yes, .string L.body], .bool true]) ?_ rfl ⟨Av, cv, Iv, dv, by rw [HG.out.1, HG.out.2], by rw [HG.out.1]; exact HE.out.1, by rw [HG.out.1]; exact HE.out.2.1, HE.out.2.2.1, HE.out.2.2.2⟩
    simp [results, Try.results49, go_sem, p0, p1, p2, p3, p4, p5, p6, p7, p8, p9, p10, p11, p12, p13]
end
end Go.Proofs.Ytaljojjpgkmiiaa

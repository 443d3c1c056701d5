/- Package net: Send and Twice. Condition: the net and the letter's rows are in memory, texts that fit. -/
import Derived.Test.YtaljojjpgkmiiaaMNetA
import Derived.Test.YtaljojjpgkmiiaaMLetF
namespace Go.Proofs.Ytaljojjpgkmiiaa
open Go.RowKit

theorem AddPost.from {B sb mb d : Nat} {E : List NEn} {L : Let} {w w2 w' : World} {e : Ending} (hb : Below w.heap.size w w2) (h : AddPost B sb mb E d L w2 e w') : AddPost B sb mb E d L w e w' := by
  rcases h with ⟨h1, h2, h3, h4⟩ | ⟨h1, en, h2, h3, h4, h5, h6, h7⟩
  · exact .inl ⟨h1, h2, h3, hb.trans (h4.mono hb.size)⟩
  · exact .inr ⟨h1, en, h2, h3, h4, h5, ⟨own_baseN h6.1 hb.size, own_baseN h6.2 hb.size⟩, (Kept2.of hb).trans h7⟩
def SendPost (B sb mb : Nat) (E : List NEn) (d : Nat) (L : Let) (w : World) (e : Ending) (w' : World) : Prop :=
  (L.err ≠ 0 ∧ e = .returned (.tuple #[.int .i64 0, .int .i64 L.err]) ∧ NetAt w' B sb mb E d ∧ Below w.heap.size w w') ∨ (L.err = 0 ∧ AddPost B sb mb E d L w e w')
section
variable {w : World} {B sb mb d : Nat} {E : List NEn}
set_option maxRecDepth 100000 in
set_option maxHeartbeats 6400000 in
theorem netSend_any (h : NetAt w B sb mb E d) (hB : B ≤ w.heap.size) (hd : d ≤ 100000000000) (L : Let) (Ap : Option Addr) (np cp : Nat) (Ai : Option Addr) (ni ci : Nat) (hR : ∀ wx, Kept2 sb mb w wx → HasLps wx wx.heap.size Ap np L.ps ∧ HasLis wx wx.heap.size Ai ni L.is)
    (hn : np ≤ maxLen ∧ ni ≤ maxLen) (ht : ∀ s ∈ L.txts, s.size ≤ 140737488355328) (htp : ∀ p ∈ L.ps, p.k.size ≤ 140737488355328 ∧ p.v.size ≤ 140737488355328) (hti : ∀ p ∈ L.is, p.e.size ≤ 140737488355328) :
    Calls Try.prog 44 #[.pointer (some ⟨sb, 0, none⟩), .agg #[.int .i64 L.kind, .int .i64 L.frm, .int .i64 L.to, .int .i64 L.a, .int .i64 L.b, .int .i64 L.c, .int .i64 L.d, .string L.s, .string L.t, .slice Ap np cp, .slice Ai ni ci, .int .i64 L.code, .bool L.yes, .string L.body]] w (SendPost B sb mb E d L w) := by
  obtain ⟨w1, hw1⟩ : ∃ w1, (w.alloc (.cells #[.int .i64 L.kind, .int .i64 L.frm, .int .i64 L.to, .int .i64 L.a, .int .i64 L.b, .int .i64 L.c, .int .i64 L.d, .string L.s, .string L.t, .slice Ap np cp, .slice Ai ni ci, .int .i64 L.code, .bool L.yes, .string L.body] 69)) = w1 := ⟨_, rfl⟩
  have b1 : Below w.heap.size w w1 := hw1 ▸ below_box _
  have x1 : Box w1 w.heap.size 69 #[.int .i64 L.kind, .int .i64 L.frm, .int .i64 L.to, .int .i64 L.a, .int .i64 L.b, .int .i64 L.c, .int .i64 L.d, .string L.s, .string L.t, .slice Ap np cp, .slice Ai ni ci, .int .i64 L.code, .bool L.yes, .string L.body] := hw1 ▸ Box.made _ _ _
  obtain ⟨k1, k2⟩ := hR w1 (Kept2.of b1)
  have Hck := Lib.hid (letCheck_any L Ap np cp Ai ni ci w1.heap.size w1 k1 k2 (Nat.le_refl _) hn ht htp hti)
  unfold LetErrPost at Hck
  have HN : Hid (∀ wx, Below w.heap.size w wx → NetAt wx B sb mb E d) := Lib.hid fun wx hx => h.below hx
  have HAdd : Hid (∀ wx, Below w.heap.size w wx → L.err = 0 → Calls Try.prog 75 #[.pointer (some ⟨sb, 0, none⟩), .agg #[.int .i64 L.kind, .int .i64 L.frm, .int .i64 L.to, .int .i64 L.a, .int .i64 L.b, .int .i64 L.c, .int .i64 L.d, .string L.s, .string L.t, .slice Ap np cp, .slice Ai ni ci, .int .i64 L.code, .bool L.yes, .string L.body]] wx (AddPost B sb mb E d L wx)) := Lib.hid fun wx hx hL =>
    netAdd_any (h.below hx) (Nat.le_trans hB hx.size) hd L Ap np cp Ai ni ci (fun wy hy => hR wy ((Kept2.of hx).trans hy)) hL
  have HX : Hid (∀ wx, Below w1.heap.size w1 wx → Below w.heap.size w wx ∧ Box wx w.heap.size 69 #[.int .i64 L.kind, .int .i64 L.frm, .int .i64 L.to, .int .i64 L.a, .int .i64 L.b, .int .i64 L.c, .int .i64 L.d, .string L.s, .string L.t, .slice Ap np cp, .slice Ai ni ci, .int .i64 L.code, .bool L.yes, .string L.body]) := Lib.hid fun wx hx => ⟨b1.trans (hx.mono b1.size), x1.below hx x1.lt⟩
  obtain ⟨⟨x0, x2, x3, x4, x5, x6, x7⟩, ⟨x8, x9⟩, ⟨x10, x11⟩, ⟨x12, x13, x14⟩⟩ := let_cells x1
  clear h hB hd hR hn ht htp hti b1 x1 k1 k2
  obtain ⟨z, hz⟩ : ∃ z, L.err = z := ⟨_, rfl⟩
  have Hz := Lib.hid hz
  rw [hz] at Hck
  clear hz
  go_enter Try.func44, Try.ntmps44
  go_wp2_with fail
  refine Hck.out.mono ?_
  rintro e w2 ⟨rfl, b2⟩
  have H2 := Lib.hid (HX.out w2 b2)
  clear x0 x2 x3 x4 x5 x6 x7 x8 x9 x10 x11 x12 x13 x14 b2 Hck
  by_cases h0 : z = 0
  · subst h0
    obtain ⟨⟨x0, x2, x3, x4, x5, x6, x7⟩, ⟨x8, x9⟩, ⟨x10, x11⟩, ⟨x12, x13, x14⟩⟩ := let_cells H2.out.2
    have Hadd := Lib.hid (HAdd.out w2 H2.out.1 Hz.out)
    clear HAdd
    go_wp2_with fail
    refine Hadd.out.mono ?_
    rintro e w3 hp
    have hq := AddPost.from H2.out.1 hp
    clear hp Hadd x0 x2 x3 x4 x5 x6 x7 x8 x9 x10 x11 x12 x13 x14
    rcases hq with ⟨h1, rfl, h3, h4⟩ | ⟨h1, en, h2, h3, rfl, h5, h6, h7⟩
    · have HE := Lib.hid (And.intro h1 (And.intro h3 h4))
      clear h1 h3 h4
      go_wp2
      go_ret2
      exact .inr ⟨Hz.out, .inl ⟨HE.out.1, rfl, HE.out.2.1, HE.out.2.2⟩⟩
    · have HE := Lib.hid (And.intro h1 (And.intro h2 (And.intro h3 (And.intro h5 (And.intro h6 h7)))))
      clear h1 h2 h3 h5 h6 h7
      go_wp2
      go_ret2
      exact .inr ⟨Hz.out, .inr ⟨HE.out.1, en, HE.out.2.1, HE.out.2.2.1, rfl, HE.out.2.2.2.1, HE.out.2.2.2.2.1, HE.out.2.2.2.2.2⟩⟩
  · have hb0 : (z != 0) = true := by simpa using h0
    have HE := Lib.hid (And.intro h0 (And.intro (HN.out w2 H2.out.1) H2.out.1))
    clear h0
    go_wp2
    go_ret2
    exact .inl ⟨fun e => HE.out.1 (Hz.out.symm.trans e), congrArg (fun q => Ending.returned (.tuple #[.int .i64 0, .int .i64 q])) Hz.out.symm, HE.out.2.1, HE.out.2.2⟩
/-- the rows of a letter under way stay, whatever becomes of the net's box and map -/
theorem NetAt.rowsStay (h : NetAt w B sb mb E d) {e : NEn} (he : OwnLps w B (.slice e.Ap e.L.ps.length e.cp) e.L.ps ∧ OwnLis w B (.slice e.Ai e.L.is.length e.ci) e.L.is) : ∀ wx, Kept2 sb mb w wx → HasLps wx wx.heap.size e.Ap e.L.ps.length e.L.ps ∧ HasLis wx wx.heap.size e.Ai e.L.is.length e.L.is := by
  intro wx hx
  have o1 : OwnLps wx B (.slice e.Ap e.L.ps.length e.cp) e.L.ps := h.rowKept hx he.1 typesN.1
  have o2 : OwnLis wx B (.slice e.Ai e.L.is.length e.ci) e.L.is := h.rowKept hx he.2 typesN.2
  obtain ⟨A1, c1, e1, -, -, k1⟩ := o1.slice
  obtain ⟨A2, c2, e2, -, -, k2⟩ := o2.slice
  injection e1 with e1 _ e1'
  injection e2 with e2 _ e2'
  subst e1 e2
  exact ⟨k1, k2⟩
def TwicePost (B sb mb : Nat) (E : List NEn) (d : Nat) (k : Int) (w : World) (e : Ending) (w' : World) : Prop :=
  (getN k E = none ∧ e = .returned (.tuple #[.int .i64 0, .int .i64 7]) ∧ NetAt w' B sb mb E d ∧ Below w.heap.size w w') ∨ (∃ e0, getN k E = some e0 ∧ AddPost B sb mb E d e0.L w e w')
set_option maxRecDepth 100000 in
set_option maxHeartbeats 6400000 in
theorem netTwice_any (h : NetAt w B sb mb E d) (hB : B ≤ w.heap.size) (hd : d ≤ 100000000000) (k : Int) (hk : (Lit.int .i64 k).wf = true) :
    Calls Try.prog 40 #[.pointer (some ⟨sb, 0, none⟩), .int .i64 k] w (TwicePost B sb mb E d k w) := by
  obtain ⟨q0, -, -, -⟩ := h.cells
  obtain ⟨l0, l1⟩ := h.look k hk
  cases hg : getN k E with
  | none =>
    have hl := l0 hg
    have HE := Lib.hid (h.below (below_box (.cells #[.int .i64 0, .int .i64 0, .int .i64 0, .int .i64 0, .int .i64 0, .int .i64 0, .int .i64 0, .string ⟨#[]⟩, .string ⟨#[]⟩, .slice none 0 0, .slice none 0 0, .int .i64 0, .bool false, .string ⟨#[]⟩] 69)))
    have HG := Lib.hid hg
    clear l0 l1 h hB hd hk hg
    unfold TwicePost
    go_enter Try.func40, Try.ntmps40
    go_wp2
    go_ret2
    exact .inl ⟨HG.out, rfl, HE.out, below_box _⟩
  | some e0 =>
    have hl := l1 e0 hg
    obtain ⟨g1, g2⟩ := h.get hg
    obtain ⟨n, Ap, cp, Ai, ci, L⟩ := e0
    simp only at hl g1 g2
    obtain ⟨w1, hw1⟩ : ∃ w1, (w.alloc (.cells #[.int .i64 L.kind, .int .i64 L.frm, .int .i64 L.to, .int .i64 L.a, .int .i64 L.b, .int .i64 L.c, .int .i64 L.d, .string L.s, .string L.t, .slice Ap L.ps.length cp, .slice Ai L.is.length ci, .int .i64 L.code, .bool L.yes, .string L.body] 69)) = w1 := ⟨_, rfl⟩
    have b1 : Below w.heap.size w w1 := hw1 ▸ below_box _
    have x1 : Box w1 w.heap.size 69 #[.int .i64 L.kind, .int .i64 L.frm, .int .i64 L.to, .int .i64 L.a, .int .i64 L.b, .int .i64 L.c, .int .i64 L.d, .string L.s, .string L.t, .slice Ap L.ps.length cp, .slice Ai L.is.length ci, .int .i64 L.code, .bool L.yes, .string L.body] := hw1 ▸ Box.made _ _ _
    have Hadd := Lib.hid (netAdd_any (h.below b1) (Nat.le_trans hB b1.size) hd L Ap L.ps.length cp Ai L.is.length ci (fun wy hy => h.rowsStay (e := ⟨n, Ap, cp, Ai, ci, L⟩) g2 wy ((Kept2.of b1).trans hy)) g1)
    obtain ⟨⟨x0, x2, x3, x4, x5, x6, x7⟩, ⟨x8, x9⟩, ⟨x10, x11⟩, ⟨x12, x13, x14⟩⟩ := let_cells x1
    have HB := Lib.hid b1
    have HG := Lib.hid hg
    clear l0 l1 h hB hd hk g1 g2 b1 x1 hg
    unfold TwicePost
    go_enter Try.func40, Try.ntmps40
    go_wp2_with fail
    refine Hadd.out.mono ?_
    rintro e w3 hp
    have hq := AddPost.from HB.out hp
    clear hp Hadd x0 x2 x3 x4 x5 x6 x7 x8 x9 x10 x11 x12 x13 x14 hl q0
    rcases hq with ⟨h1, rfl, h3, h4⟩ | ⟨h1, en, h2, h3, rfl, h5, h6, h7⟩
    · have HE := Lib.hid (And.intro h1 (And.intro h3 h4))
      clear h1 h3 h4
      go_wp2
      go_ret2
      exact .inr ⟨_, HG.out, .inl ⟨HE.out.1, rfl, HE.out.2.1, HE.out.2.2⟩⟩
    · have HE := Lib.hid (And.intro h1 (And.intro h2 (And.intro h3 (And.intro h5 (And.intro h6 h7)))))
      clear h1 h2 h3 h5 h6 h7
      go_wp2
      go_ret2
      exact .inr ⟨_, HG.out, .inr ⟨HE.out.1, en, HE.out.2.1, HE.out.2.2.1, rfl, HE.out.2.2.2.1, HE.out.2.2.2.2.1, HE.out.2.2.2.2.2⟩⟩
end
end Go.Proofs.Ytaljojjpgkmiiaa

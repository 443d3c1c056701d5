/- OnceSaves: a table that was saved is loaded as it was; tables that are the same have one text; whatever else is loaded saves itself as that. No condition. -/
import Derived.Test.YtdfhnjocpfjagaaSepA
import Derived.Test.YtdfhnjocpfjagaaMOnP
import Derived.Test.YtdfhnjocpfjagaaMSvSp
import Derived.Test.YtdfhnjocpfjagaaMSvG
import Derived.Test.YtdfhnjocpfjagaaRow
namespace Go.Proofs.Ytdfhnjocpfjagaa
open Go.RowKit

section
variable {Ω : Type} {At : World → (Nat → Prop) → Ω → Prop} {B : Nat} {w : World} {l : List Ω}
/-- some of the structures, in whatever order -/
theorem Sep.sel (h : Sep At B w l) {l' : List Ω} (σ : Nat → Nat) (hσ : ∀ j k, j < l'.length → k < l'.length → σ j = σ k → j = k) (hl : ∀ k o, l'[k]? = some o → l[σ k]? = some o) : Sep At B w l' := by
  obtain ⟨F, h1, h2, h3, h4⟩ := h
  refine ⟨fun k i => k < l'.length ∧ F (σ k) i, fun k o ho => ?_, fun k i hi => h2 _ i hi.2, fun j k i hi hi' => hσ j k hi.1 hi'.1 (h3 _ _ i hi.2 hi'.2), fun k i hk hi => by omega⟩
  have hk : k < l'.length := (List.getElem?_eq_some_iff.1 ho).1
  have e : (fun i => k < l'.length ∧ F (σ k) i) = F (σ k) := by funext i; simp [hk]
  show At w (fun i => k < l'.length ∧ F (σ k) i) o
  rw [e]
  exact h1 _ o (hl k o ho)
end
end Go.Proofs.Ytdfhnjocpfjagaa

namespace Go.Proofs.Ytdfhnjocpfjagaa
open Go.RowKit

theorem store8q {w W : World} {g : Nat} {t : TypeId} {y0 y1 y2 y3 y4 y5 y6 y7 x0 x1 x2 x3 x4 x5 x6 x7 : Value} (h : Box w g t #[y0, y1, y2, y3, y4, y5, y6, y7]) (hW : ((((((((w.setCell ⟨g, 0, none⟩ x0).setCell ⟨g, 1, none⟩ x1).setCell ⟨g, 2, none⟩ x2).setCell ⟨g, 3, none⟩ x3).setCell ⟨g, 4, none⟩ x4).setCell ⟨g, 5, none⟩ x5).setCell ⟨g, 6, none⟩ x6).setCell ⟨g, 7, none⟩ x7) = W) :
    Box W g t #[x0, x1, x2, x3, x4, x5, x6, x7] ∧ w.grownBy W (some g) ∧ W.heap.size = w.heap.size := by
  subst hW
  have b0 : Box _ g t #[x0, y1, y2, y3, y4, y5, y6, y7] := h.set_ 0 x0
  have b1 : Box _ g t #[x0, x1, y2, y3, y4, y5, y6, y7] := b0.set_ 1 x1
  have b2 : Box _ g t #[x0, x1, x2, y3, y4, y5, y6, y7] := b1.set_ 2 x2
  have b3 : Box _ g t #[x0, x1, x2, x3, y4, y5, y6, y7] := b2.set_ 3 x3
  have b4 : Box _ g t #[x0, x1, x2, x3, x4, y5, y6, y7] := b3.set_ 4 x4
  have b5 : Box _ g t #[x0, x1, x2, x3, x4, x5, y6, y7] := b4.set_ 5 x5
  have b6 : Box _ g t #[x0, x1, x2, x3, x4, x5, x6, y7] := b5.set_ 6 x6
  have b7 : Box _ g t #[x0, x1, x2, x3, x4, x5, x6, x7] := b6.set_ 7 x7
  have tr : ∀ {a b c : World}, a.grownBy b (some g) → b.grownBy c (some g) → a.grownBy c (some g) := fun h1 h2 =>
    ⟨h2.os.trans h1.os, h2.tape.trans h1.tape, h2.output.trans h1.output, Nat.le_trans h1.size h2.size, fun k hk hne => (h2.block k (Nat.lt_of_lt_of_le hk h1.size) hne).trans (h1.block k hk hne)⟩
  exact ⟨b7, tr (tr (tr (tr (tr (tr (tr (grown_set _ g 0 x0) (grown_set _ g 1 x1)) (grown_set _ g 2 x2)) (grown_set _ g 3 x3)) (grown_set _ g 4 x4)) (grown_set _ g 5 x5)) (grown_set _ g 6 x6)) (grown_set _ g 7 x7), by simp⟩
theorem bits17 (z : Int) : ∃ q : Nat, q < 2 ∧ bits BinOp.and IntKind.i64 z 1 = (q : Int) := by
  refine ⟨(BitVec.ofInt 64 z &&& BitVec.ofInt 64 1).toNat, ?_, ?_⟩
  · rw [BitVec.toNat_and, show (BitVec.ofInt 64 1).toNat = 1 from by decide +kernel, Nat.and_one_is_mod]
    omega
  · have h2 : (BitVec.ofInt 64 z &&& BitVec.ofInt 64 1).toNat < 2 := by
      rw [BitVec.toNat_and, show (BitVec.ofInt 64 1).toNat = 1 from by decide +kernel, Nat.and_one_is_mod]
      omega
    show IntKind.i64.wrap ((BitVec.ofInt 64 z &&& BitVec.ofInt 64 1).toNat : Int) = _
    exact IntWalk.i64_in _ (by omega)
abbrev A2 : TypeId := 90
abbrev R2 : TypeId := 91
abbrev two2 (a b : Nat) : Array Value := #[.pointer (some ⟨a, 0, none⟩), .pointer (some ⟨b, 0, none⟩)]
/-- both tables of the program, both of the document, and the arrays of both -/
structure FilR (w wr : World) (k g0 g1 s0 s1 r0 r1 : Nat) (T0 T1 : Tb) (R0 R1 : Rf) : Prop where
  sep : SepO w.heap.size wr [.tab s0 T0, .tab s1 T1, .box g0 90 #[.pointer (some ⟨s0, 0, none⟩), .pointer (some ⟨s1, 0, none⟩)], .ref r0 R0, .ref r1 R1, .box g1 91 #[.pointer (some ⟨r0, 0, none⟩), .pointer (some ⟨r1, 0, none⟩)]]
  below : Below w.heap.size w wr
  rel : Rel R0 T0 ∧ Rel R1 T1
  len : (T0.length ≤ k ∧ R0.L.length ≤ k ∧ R0.Q.length ≤ k) ∧ T1.length ≤ k ∧ R1.L.length ≤ k ∧ R1.Q.length ≤ k
  int : (TInt T0 ∧ TInt T1) ∧ cntT T0 ≤ k ∧ cntT T1 ≤ k
/-- what an act on table q finds, and leaves -/
theorem fil_act {w wr : World} {k g0 g1 s0 s1 r0 r1 : Nat} {T0 T1 : Tb} {R0 R1 : Rf} (h : FilR w wr k g0 g1 s0 s1 r0 r1 T0 T1 R0 R1) (q : Nat) (hq : q < 2) (c n : Int) (r : Rp) (m : Nat) (hi : ∀ v ∈ r.rc, InI64 v.n) :
    ∃ (sq : Nat) (Tq T0' T1' : Tb) (rq : Nat) (Rq R0' R1' : Rf),
      ((∀ X : Ob, ([.tab s0 T0, .tab s1 T1, .box g0 A2 (two2 s0 s1), .ref r0 R0, .ref r1 R1, .box g1 R2 (two2 r0 r1), X] : List Ob)[q]? = some (.tab sq Tq)) ∧
       (∀ X : Ob, ([.tab s0 T0, .tab s1 T1, .box g0 A2 (two2 s0 s1), .ref r0 R0, .ref r1 R1, .box g1 R2 (two2 r0 r1), X] : List Ob).set q (.tab sq (keepT c n r m Tq)) = [.tab s0 T0', .tab s1 T1', .box g0 A2 (two2 s0 s1), .ref r0 R0, .ref r1 R1, .box g1 R2 (two2 r0 r1), X]) ∧
       (∀ X : Ob, ([.tab s0 T0', .tab s1 T1', .box g0 A2 (two2 s0 s1), .ref r0 R0, .ref r1 R1, .box g1 R2 (two2 r0 r1), X] : List Ob)[3 + q]? = some (.ref rq Rq)) ∧
       (∀ X : Ob, ([.tab s0 T0', .tab s1 T1', .box g0 A2 (two2 s0 s1), .ref r0 R0, .ref r1 R1, .box g1 R2 (two2 r0 r1), X] : List Ob).set (3 + q) (.ref rq (keepR c n r m Rq)) = [.tab s0 T0', .tab s1 T1', .box g0 A2 (two2 s0 s1), .ref r0 R0', .ref r1 R1', .box g1 R2 (two2 r0 r1), X])) ∧
      ((∀ wx : World, wx.cell? ⟨g0, 0, none⟩ = some (.pointer (some ⟨s0, 0, none⟩)) ∧ wx.cell? ⟨g0, 1, none⟩ = some (.pointer (some ⟨s1, 0, none⟩)) → wx.cell? ⟨g0, q, none⟩ = some (.pointer (some ⟨sq, 0, none⟩))) ∧
       (∀ wx : World, wx.cell? ⟨g1, 0, none⟩ = some (.pointer (some ⟨r0, 0, none⟩)) ∧ wx.cell? ⟨g1, 1, none⟩ = some (.pointer (some ⟨r1, 0, none⟩)) → wx.cell? ⟨g1, q, none⟩ = some (.pointer (some ⟨rq, 0, none⟩)))) ∧
      (Tq.length ≤ k ∧ Rq.L.length ≤ k ∧ Rq.Q.length ≤ k ∧ Rel Rq Tq) ∧
      ((T0'.length ≤ k + 1 ∧ R0'.L.length ≤ k + 1 ∧ R0'.Q.length ≤ k + 1) ∧ T1'.length ≤ k + 1 ∧ R1'.L.length ≤ k + 1 ∧ R1'.Q.length ≤ k + 1) ∧ (Rel R0' T0' ∧ Rel R1' T1') ∧ (TInt T0' ∧ TInt T1') ∧ cntT T0' ≤ k + 1 ∧ cntT T1' ≤ k + 1 := by
  have hl := h.len
  have g0 := s_good (k := 0) h.sep rfl
  have g1 := s_good (k := 1) h.sep rfl
  rcases (by omega : q = 0 ∨ q = 1) with rfl | rfl
  · have h2 := keepT_len c n r m T0
    have h3 := keepR_len c n r m R0
    exact ⟨s0, T0, keepT c n r m T0, T1, r0, R0, keepR c n r m R0, R1, ⟨fun _ => rfl, fun _ => rfl, fun _ => rfl, fun _ => rfl⟩, ⟨fun _ h => h.1, fun _ h => h.1⟩, ⟨by omega, by omega, by omega, h.rel.1⟩, ⟨by omega, by omega⟩, ⟨keep_rel h.rel.1 g0 _ _ _ _, h.rel.2⟩, ⟨h.int.1.1.keep hi, h.int.1.2⟩, Nat.le_trans (cnt_keep g0.rise _ _ _ _) (Nat.succ_le_succ h.int.2.1), Nat.le_succ_of_le h.int.2.2⟩
  · have h2 := keepT_len c n r m T1
    have h3 := keepR_len c n r m R1
    exact ⟨s1, T1, T0, keepT c n r m T1, r1, R1, R0, keepR c n r m R1, ⟨fun _ => rfl, fun _ => rfl, fun _ => rfl, fun _ => rfl⟩, ⟨fun _ h => h.2, fun _ h => h.2⟩, ⟨by omega, by omega, by omega, h.rel.2⟩, ⟨by omega, by omega⟩, ⟨h.rel.1, keep_rel h.rel.2 g1 _ _ _ _⟩, ⟨h.int.1.1, h.int.1.2.keep hi⟩, Nat.le_succ_of_le h.int.2.1, Nat.le_trans (cnt_keep g1.rise _ _ _ _) (Nat.succ_le_succ h.int.2.2)⟩
end Go.Proofs.Ytdfhnjocpfjagaa

namespace Go.Proofs.Ytdfhnjocpfjagaa
open Go.RowKit

set_option maxRecDepth 100000 in
set_option maxHeartbeats 12800000 in
theorem saves_walk (A : Option Addr) (n c : Nat) (l : List ActO) (s : ByteArray) (w : World) (h : HasOas w w.heap.size A n l) (hn : n ≤ maxLen) :
    Calls Try.prog 12 #[.slice A n c, .string s] w fun e w' => e = .returned (.bool true) ∧ Below w.heap.size w w' := by
  have H := Lib.hid h
  have hl := h.1
  have HLi := Lib.hid (fun wx (hb : Below w.heap.size w wx) => light17_any A n c w.heap.size l wx (h.belowOf hb (Nat.le_refl _)) hb.size hn)
  have Hact : Hid (∀ (k : Nat), k < n → ∃ a o, A = some a ∧ l[k]? = some o ∧ ActOk w w.heap.size o ∧ ∀ wx, Below w.heap.size w wx → (wx.cell? (a.add (k * 8)) = some (.int .i64 o.who) ∧ wx.cell? ⟨(a.add (k * 8)).block, (a.add (k * 8)).off + 1, none⟩ = some (.int .i64 o.c) ∧ wx.cell? ⟨(a.add (k * 8)).block, (a.add (k * 8)).off + 2, none⟩ = some (.int .i64 o.n) ∧ wx.cell? ⟨(a.add (k * 8)).block, (a.add (k * 8)).off + 3, none⟩ = some (.int .i64 o.r.code) ∧ wx.cell? ⟨(a.add (k * 8)).block, (a.add (k * 8)).off + 3 + 1, none⟩ = some (.bool o.r.there) ∧ wx.cell? ⟨(a.add (k * 8)).block, (a.add (k * 8)).off + 3 + 2, none⟩ = some (.slice o.A o.rn o.d) ∧ wx.cell? ⟨(a.add (k * 8)).block, (a.add (k * 8)).off + 3 + 3, none⟩ = some (.slice o.X o.m o.y) ∧ wx.cell? ⟨(a.add (k * 8)).block, (a.add (k * 8)).off + 3 + 4, none⟩ = some (.int .i64 o.r.id))) := Lib.hid fun k hk => by
    obtain ⟨a, o, e, hab, ho, ⟨c0, c1, c2, c3, c4, c5, c6, c7⟩, hok⟩ := h.at_ hk
    have kk : ∀ wx, Below w.heap.size w wx → ∀ p : Addr, p.block = a.block → wx.cell? p = w.cell? p := fun wx hx p hp => hx.cell (by omega)
    exact ⟨a, o, e, ho, hok, fun wx hx => ⟨(kk wx hx _ (addr_block _ _)).trans c0, (kk wx hx _ (by simp [addr_block])).trans c1, (kk wx hx _ (by simp [addr_block])).trans c2, (kk wx hx _ (by simp [addr_block])).trans c3, (kk wx hx _ (by simp [addr_block])).trans c4, (kk wx hx _ (by simp [addr_block])).trans c5, (kk wx hx _ (by simp [addr_block])).trans c6, (kk wx hx _ (by simp [addr_block])).trans c7⟩⟩
  have HS17 := Lib.hid (fun wx (hb : Below w.heap.size w wx) => h.belowOf hb (Nat.le_refl _))
  have hn0 := hn
  have HN0 := Lib.hid hn0
  unfold maxLen at hn
  clear h hn0
  go_enter Try.func12, Try.ntmps12
  go_wp2_with fail
  refine (awake17_any _).mono ?_
  rintro e w1 ⟨rfl, b1⟩
  have B1 := Lib.hid b1
  clear b1
  go_wp2_with fail
  refine (HLi.out w1 B1.out).mono ?_
  rintro e w2 ⟨t, rfl, ht, b2⟩
  have B2 := Lib.hid (B1.out.trans (b2.mono B1.out.size))
  have Ht := Lib.hid ht
  clear ht b2
  cases t with
  | false =>
    go_wp2
    go_ret
    exact ⟨rfl, B2.out⟩
  | true =>
    have hn100 : n < 100 := Ht.out rfl
    clear Ht
    obtain ⟨hn1, hn2⟩ : n < 100 ∧ n ≤ 100 := ⟨hn100, by omega⟩
    clear hn100
    by_cases hs3 : 3000 < s.size
    · have hs4 : (3000 : Int) < (s.size : Int) := by omega
      go_wp2
      go_ret
      exact ⟨rfl, B2.out⟩
    have hs4 : ¬ (3000 : Int) < (s.size : Int) := by omega
    have Hs3 : Hid (s.size ≤ 100000) := Lib.hid (by omega)
    clear hs3
    have Hn1 := Lib.hid (s_new (Sep.nil : SepO w.heap.size w2 []) B2.out.size)
    go_wp2_with fail
    refine Hn1.out.mono ?_
    rintro e w3 ⟨s0, rfl, S3, b3⟩
    have HS3 := Lib.hid S3
    have B3 := Lib.hid (B2.out.trans (b3.mono B2.out.size))
    clear S3 b3
    go_wp2_with fail
    refine (s_new HS3.out B3.out.size).mono ?_
    rintro e w4 ⟨s1, rfl, S4, b4⟩
    have B4 := Lib.hid (B3.out.trans (b4.mono B3.out.size))
    have HS4 := Lib.hid S4
    clear S4 b4
    obtain ⟨g0, hg0⟩ : ∃ g, w4.heap.size = g := ⟨_, rfl⟩
    obtain ⟨w5, hw5⟩ : ∃ w5, w4.alloc (.cells #[.pointer none, .pointer none] 90) = w5 := ⟨_, rfl⟩
    have x5 : Box w5 g0 90 #[.pointer none, .pointer none] := hg0 ▸ hw5 ▸ Box.made _ _ _
    have u5 : Below w4.heap.size w4 w5 := hw5 ▸ below_box _
    obtain ⟨w6, hw6⟩ : ∃ w6, ((w5.setCell ⟨g0, 0, none⟩ (.pointer (some ⟨s0, 0, none⟩))).setCell ⟨g0, 1, none⟩ (.pointer (some ⟨s1, 0, none⟩))) = w6 := ⟨_, rfl⟩
    obtain ⟨x6, gg6, -⟩ := store2 x5 hw6
    have u6 : Below w4.heap.size w4 w6 := u5.grown gg6 u5.size (fun g' hg' => by injection hg' with hg'; omega)
    have d0 : w5.cell? ⟨g0, 0, none⟩ = some (.pointer none) := x5.cell 0
    have d1 : w5.cell? ⟨g0, 1, none⟩ = some (.pointer none) := x5.cell 1
    have f0 : w5.frozen? ⟨g0, 0, none⟩ = false := x5.frozen 0
    have f1 : w5.frozen? ⟨g0, 1, none⟩ = false := x5.frozen 1
    have B6 := Lib.hid (B4.out.trans (u6.mono B4.out.size))
    have HS6 := Lib.hid (s_box HS4.out B4.out.size u6 x6 (by omega))
    obtain ⟨r0, hr0⟩ : ∃ g, w6.heap.size = g := ⟨_, rfl⟩
    obtain ⟨w7, hw7⟩ : ∃ w7, w6.alloc (.cells #[.slice none 0 0, .slice none 0 0] 78) = w7 := ⟨_, rfl⟩
    have HS7 := Lib.hid (s_rnew HS6.out B6.out.size (t := 78) rfl)
    have B7 := Lib.hid (B6.out.trans ((below_box (w := w6) (.cells #[.slice none 0 0, .slice none 0 0] 78)).mono B6.out.size))
    rw [hw7, hr0] at HS7
    rw [hw7] at B7
    obtain ⟨r1, hr1⟩ : ∃ g, w7.heap.size = g := ⟨_, rfl⟩
    obtain ⟨w8, hw8⟩ : ∃ w8, w7.alloc (.cells #[.slice none 0 0, .slice none 0 0] 78) = w8 := ⟨_, rfl⟩
    have HS8 := Lib.hid (s_rnew HS7.out B7.out.size (t := 78) rfl)
    have B8 := Lib.hid (B7.out.trans ((below_box (w := w7) (.cells #[.slice none 0 0, .slice none 0 0] 78)).mono B7.out.size))
    rw [hw8, hr1] at HS8
    rw [hw8] at B8
    obtain ⟨g1, hg1⟩ : ∃ g, w8.heap.size = g := ⟨_, rfl⟩
    obtain ⟨w9, hw9⟩ : ∃ w9, w8.alloc (.cells #[.pointer none, .pointer none] 91) = w9 := ⟨_, rfl⟩
    have x9 : Box w9 g1 91 #[.pointer none, .pointer none] := hg1 ▸ hw9 ▸ Box.made _ _ _
    have u9 : Below w8.heap.size w8 w9 := hw9 ▸ below_box _
    obtain ⟨w10, hw10⟩ : ∃ w10, ((w9.setCell ⟨g1, 0, none⟩ (.pointer (some ⟨r0, 0, none⟩))).setCell ⟨g1, 1, none⟩ (.pointer (some ⟨r1, 0, none⟩))) = w10 := ⟨_, rfl⟩
    obtain ⟨x10, gg10, -⟩ := store2 x9 hw10
    have u10 : Below w8.heap.size w8 w10 := u9.grown gg10 u9.size (fun g' hg' => by injection hg' with hg'; omega)
    have d2 : w9.cell? ⟨g1, 0, none⟩ = some (.pointer none) := x9.cell 0
    have d3 : w9.cell? ⟨g1, 1, none⟩ = some (.pointer none) := x9.cell 1
    have f2 : w9.frozen? ⟨g1, 0, none⟩ = false := x9.frozen 0
    have f3 : w9.frozen? ⟨g1, 1, none⟩ = false := x9.frozen 1
    have H10 : Hid (FilR w w10 0 g0 g1 s0 s1 r0 r1 [] [] Rf.nil Rf.nil) := Lib.hid ⟨s_box HS8.out B8.out.size u10 x10 (by omega), B8.out.trans (u10.mono B8.out.size), ⟨Rel.nil, Rel.nil⟩, ⟨⟨Nat.le_refl _, Nat.le_refl _, Nat.le_refl _⟩, Nat.le_refl _, Nat.le_refl _, Nat.le_refl _⟩, ⟨TInt.nil, TInt.nil⟩, Nat.le_refl _, Nat.le_refl _⟩
    clear x5 u5 x6 gg6 u6 x9 u9 x10 gg10 u10 HS3 HS4 HS6 HS7 HS8
    go_wp2
    clear d0 d1 d2 d3 f0 f1 f2 f3 hw5 hw6 hw7 hw8 hw9 hw10 hg0 hg1 hr0 hr1
    go_loopw [7] (fun iv wr => ∃ k : Nat, k ≤ n ∧ iv = .int .i64 (k : Int) ∧ Hid (∃ T0 T1 R0 R1, FilR w wr k g0 g1 s0 s1 r0 r1 T0 T1 R0 R1)) (fun iv _ => n - (intOf iv).toNat)
    case atStart => exact ⟨0, by omega, rfl, Lib.hid ⟨_, _, _, _, H10.out⟩⟩
    case round =>
      obtain ⟨k, hk, rfl, HL0⟩ := hrel
      obtain ⟨T0, T1, R0, R1, hL⟩ := HL0.out
      have HL := Lib.hid hL
      clear HL0 hL HLi Hn1 H10 B4 B6 B7 B8
      by_cases hlt : k < n
      · obtain ⟨a, o, rfl, ho, hok, hX⟩ := Hact.out k hlt
        have hk0 : (0 : Int) ≤ (k : Int) := by omega
        have hk1 : (k : Int) < (n : Int) := by omega
        obtain ⟨q, hq2, hq⟩ := bits17 o.who
        have hqi : (q : Int) < 2 := by omega
        obtain ⟨sq, Tq, T0', T1', rq, Rq, R0', R1', f1, f2, f3, f4, f5⟩ := fil_act HL.out q hq2 o.c o.n o.r o.m hok.rp.num
        have HF1 := Lib.hid f1
        have HF2 := Lib.hid f2
        have HF3 := Lib.hid f3
        have HF4 := Lib.hid f4
        have HF5 := Lib.hid f5
        have HKT : Hid (∀ wx (lx : List Ob), SepO w.heap.size wx lx → Below w.heap.size w wx → lx[q]? = some (.tab sq Tq) → Calls Try.prog 53 #[.pointer (some ⟨sq, 0, none⟩), .int .i64 o.c, .int .i64 o.n, .agg #[.int .i64 o.r.code, .bool o.r.there, .slice o.A o.rn o.d, .slice o.X o.m o.y, .int .i64 o.r.id]] wx fun e w' =>
            e = .returned (.int .i64 (keepE o.c o.n o.r o.m Tq)) ∧ SepO w.heap.size w' (lx.set q (.tab sq (keepT o.c o.n o.r o.m Tq))) ∧ Below w.heap.size wx w') := Lib.hid fun wx lx hs hb hj =>
          s_keep hs hb.size hj (by have := HF3.out.1; omega) o.c o.n hok.cw hok.nw o.r o.A o.rn o.d o.m o.X o.y w.heap.size (hok.rp.vals.belowOf hb (Nat.le_refl _)) hok.rp.len hb.size hok.rp.num
        have HKR : Hid (∀ wx (lx : List Ob), SepO w.heap.size wx lx → Below w.heap.size w wx → lx[3 + q]? = some (.ref rq Rq) → Calls Try.prog 54 #[.pointer (some ⟨rq, 0, none⟩), .int .i64 o.c, .int .i64 o.n, .agg #[.int .i64 o.r.code, .bool o.r.there, .slice o.A o.rn o.d, .slice o.X o.m o.y, .int .i64 o.r.id]] wx fun e w' =>
            e = .returned (.int .i64 (keepRE o.c o.n o.r o.m Rq)) ∧ SepO w.heap.size w' (lx.set (3 + q) (.ref rq (keepR o.c o.n o.r o.m Rq))) ∧ Below w.heap.size wx w') := Lib.hid fun wx lx hs hb hj =>
          s_rkeep hs hb.size hj ⟨by have := HF3.out.2; omega, by have := HF3.out.2; omega⟩ HF3.out.2.2.2.rq HF3.out.2.2.2.lex o.c o.n o.r o.A o.rn o.d o.m o.X o.y w.heap.size (hok.rp.vals.belowOf hb (Nat.le_refl _)) hok.rp.len hb.size
        obtain ⟨c0, c1, c2, c3, c4, c5, c6, c7⟩ := hX wr HL.out.below
        clear hX hok ho f1 f2 f3 f4 f5 hq2
        obtain ⟨w4a, hw4a⟩ : ∃ wx, wr.alloc (.cells #[.int .i64 0, .int .i64 0, .int .i64 0, .int .i64 0, .bool false, .slice none 0 0, .slice none 0 0, .int .i64 0] 84) = wx := ⟨_, rfl⟩
        have xw4a : Box w4a wr.heap.size 84 #[.int .i64 0, .int .i64 0, .int .i64 0, .int .i64 0, .bool false, .slice none 0 0, .slice none 0 0, .int .i64 0] := hw4a ▸ Box.made _ _ _
        have uw4a : Below wr.heap.size wr w4a := hw4a ▸ below_box _
        obtain ⟨w4, hw4⟩ : ∃ wx, ((((((((w4a.setCell ⟨wr.heap.size, 0, none⟩ (.int .i64 o.who)).setCell ⟨wr.heap.size, 1, none⟩ (.int .i64 o.c)).setCell ⟨wr.heap.size, 2, none⟩ (.int .i64 o.n)).setCell ⟨wr.heap.size, 3, none⟩ (.int .i64 o.r.code)).setCell ⟨wr.heap.size, 4, none⟩ (.bool o.r.there)).setCell ⟨wr.heap.size, 5, none⟩ (.slice o.A o.rn o.d)).setCell ⟨wr.heap.size, 6, none⟩ (.slice o.X o.m o.y)).setCell ⟨wr.heap.size, 7, none⟩ (.int .i64 o.r.id)) = wx := ⟨_, rfl⟩
        obtain ⟨xw4, gw4, sw4⟩ := store8q xw4a hw4
        have uw4 : Below wr.heap.size wr w4 := uw4a.grown gw4 uw4a.size (fun g hg => by injection hg with hg; omega)
        have k0 : w4a.cell? ⟨wr.heap.size, 0, none⟩ = some (.int .i64 0) := xw4a.cell 0
        have k1 : w4a.cell? ⟨wr.heap.size, 1, none⟩ = some (.int .i64 0) := xw4a.cell 1
        have k2 : w4a.cell? ⟨wr.heap.size, 2, none⟩ = some (.int .i64 0) := xw4a.cell 2
        have k3 : w4a.cell? ⟨wr.heap.size, 3, none⟩ = some (.int .i64 0) := xw4a.cell 3
        have k4 : w4a.cell? ⟨wr.heap.size, 4, none⟩ = some (.bool false) := xw4a.cell 4
        have k5 : w4a.cell? ⟨wr.heap.size, 5, none⟩ = some (.slice none 0 0) := xw4a.cell 5
        have k6 : w4a.cell? ⟨wr.heap.size, 6, none⟩ = some (.slice none 0 0) := xw4a.cell 6
        have k7 : w4a.cell? ⟨wr.heap.size, 7, none⟩ = some (.int .i64 0) := xw4a.cell 7
        have j0 : w4a.frozen? ⟨wr.heap.size, 0, none⟩ = false := xw4a.frozen 0
        have j1 : w4a.frozen? ⟨wr.heap.size, 1, none⟩ = false := xw4a.frozen 1
        have j2 : w4a.frozen? ⟨wr.heap.size, 2, none⟩ = false := xw4a.frozen 2
        have j3 : w4a.frozen? ⟨wr.heap.size, 3, none⟩ = false := xw4a.frozen 3
        have j4 : w4a.frozen? ⟨wr.heap.size, 4, none⟩ = false := xw4a.frozen 4
        have j5 : w4a.frozen? ⟨wr.heap.size, 5, none⟩ = false := xw4a.frozen 5
        have j6 : w4a.frozen? ⟨wr.heap.size, 6, none⟩ = false := xw4a.frozen 6
        have j7 : w4a.frozen? ⟨wr.heap.size, 7, none⟩ = false := xw4a.frozen 7
        have H4 := Lib.hid (And.intro (s_box HL.out.sep HL.out.below.size uw4 xw4 (Nat.le_refl _)) (HL.out.below.trans (uw4.mono HL.out.below.size)))
        clear xw4a uw4a xw4 gw4 sw4 uw4
        have hdr : Below w4.heap.size w4 w4.drew := (Below.refl _ _).drew
        have HD := Lib.hid (And.intro (s_below H4.out.1 hdr) (H4.out.2.trans (hdr.mono H4.out.2.size)))
        clear hdr
        go_wp2
        obtain ⟨g, hg⟩ : ∃ g, wr.heap.size = g := ⟨_, rfl⟩
        rw [hg] at HD ⊢
        have HBX : Hid (∀ wx Tx Ty, SepO w.heap.size wx [.tab s0 Tx, .tab s1 Ty, .box g0 90 #[.pointer (some ⟨s0, 0, none⟩), .pointer (some ⟨s1, 0, none⟩)], .ref r0 R0, .ref r1 R1, .box g1 91 #[.pointer (some ⟨r0, 0, none⟩), .pointer (some ⟨r1, 0, none⟩)], .box g 84 #[.int .i64 o.who, .int .i64 o.c, .int .i64 o.n, .int .i64 o.r.code, .bool o.r.there, .slice o.A o.rn o.d, .slice o.X o.m o.y, .int .i64 o.r.id]] → (wx.cell? ⟨g, 0, none⟩ = some (.int .i64 o.who) ∧ wx.cell? ⟨g, 1, none⟩ = some (.int .i64 o.c) ∧ wx.cell? ⟨g, 2, none⟩ = some (.int .i64 o.n) ∧ wx.cell? ⟨g, 3, none⟩ = some (.int .i64 o.r.code) ∧ wx.cell? ⟨g, 4, none⟩ = some (.bool o.r.there) ∧ wx.cell? ⟨g, 5, none⟩ = some (.slice o.A o.rn o.d) ∧ wx.cell? ⟨g, 6, none⟩ = some (.slice o.X o.m o.y) ∧ wx.cell? ⟨g, 7, none⟩ = some (.int .i64 o.r.id)) ∧ wx.cell? ⟨g0, q, none⟩ = some (.pointer (some ⟨sq, 0, none⟩)) ∧ wx.cell? ⟨g1, q, none⟩ = some (.pointer (some ⟨rq, 0, none⟩))) := Lib.hid fun wx Tx Ty hs => by
          have y0 := s_bx (k := 6) hs rfl
          have y1 := s_bx (k := 2) hs rfl
          have y2 := s_bx (k := 5) hs rfl
          exact ⟨⟨y0.cell 0, y0.cell 1, y0.cell 2, y0.cell 3, y0.cell 4, y0.cell 5, y0.cell 6, y0.cell 7⟩, HF2.out.1 _ ⟨y1.cell 0, y1.cell 1⟩, HF2.out.2 _ ⟨y2.cell 0, y2.cell 1⟩⟩
        clear k0 k1 k2 k3 k4 k5 k6 k7 j0 j1 j2 j3 j4 j5 j6 j7 hw4a hw4
        go_region_held3 (fun wx => (wx.cell? ⟨g, 0, none⟩ = some (.int .i64 o.who) ∧ wx.cell? ⟨g, 1, none⟩ = some (.int .i64 o.c) ∧ wx.cell? ⟨g, 2, none⟩ = some (.int .i64 o.n) ∧ wx.cell? ⟨g, 3, none⟩ = some (.int .i64 o.r.code) ∧ wx.cell? ⟨g, 4, none⟩ = some (.bool o.r.there) ∧ wx.cell? ⟨g, 5, none⟩ = some (.slice o.A o.rn o.d) ∧ wx.cell? ⟨g, 6, none⟩ = some (.slice o.X o.m o.y) ∧ wx.cell? ⟨g, 7, none⟩ = some (.int .i64 o.r.id)) ∧ wx.cell? ⟨g0, q, none⟩ = some (.pointer (some ⟨sq, 0, none⟩)))
          (first | exact ⟨(HBX.out _ _ _ HD.out.1).1, (HBX.out _ _ _ HD.out.1).2.1⟩ | exact ⟨(HBX.out _ _ _ HT.out.1).1, (HBX.out _ _ _ HT.out.1).2.1⟩)
          (first
            | (go_at_call 53; refine (HKT.out _ _ HD.out.1 HD.out.2 (HF1.out.1 _)).mono ?_; rintro e wT ⟨rfl, sT, bT⟩; have HT := Lib.hid (And.intro ((HF1.out.2.1 _) ▸ sT) (HD.out.2.trans bT))))
        have hdr : Below wT.heap.size wT wT.drew := (Below.refl _ _).drew
        have HD2 := Lib.hid (And.intro (s_below HT.out.1 hdr) (HT.out.2.trans (hdr.mono HT.out.2.size)))
        clear hdr sT bT
        go_wp2
        go_region_held3 (fun wx => (wx.cell? ⟨g, 0, none⟩ = some (.int .i64 o.who) ∧ wx.cell? ⟨g, 1, none⟩ = some (.int .i64 o.c) ∧ wx.cell? ⟨g, 2, none⟩ = some (.int .i64 o.n) ∧ wx.cell? ⟨g, 3, none⟩ = some (.int .i64 o.r.code) ∧ wx.cell? ⟨g, 4, none⟩ = some (.bool o.r.there) ∧ wx.cell? ⟨g, 5, none⟩ = some (.slice o.A o.rn o.d) ∧ wx.cell? ⟨g, 6, none⟩ = some (.slice o.X o.m o.y) ∧ wx.cell? ⟨g, 7, none⟩ = some (.int .i64 o.r.id)) ∧ wx.cell? ⟨g1, q, none⟩ = some (.pointer (some ⟨rq, 0, none⟩)))
          (first | exact ⟨(HBX.out _ _ _ HD2.out.1).1, (HBX.out _ _ _ HD2.out.1).2.2⟩ | exact hM9)
          (first
            | (go_at_call 54; refine (HKR.out _ _ HD2.out.1 HD2.out.2 (HF1.out.2.2.1 _)).mono ?_; rintro e wM ⟨rfl, sM, bM⟩; have HM := Lib.hid (And.intro ((HF1.out.2.2.2 _) ▸ sM) (HD2.out.2.trans bM)); have hM9 : (wM.cell? ⟨g, 0, none⟩ = some (.int .i64 o.who) ∧ wM.cell? ⟨g, 1, none⟩ = some (.int .i64 o.c) ∧ wM.cell? ⟨g, 2, none⟩ = some (.int .i64 o.n) ∧ wM.cell? ⟨g, 3, none⟩ = some (.int .i64 o.r.code) ∧ wM.cell? ⟨g, 4, none⟩ = some (.bool o.r.there) ∧ wM.cell? ⟨g, 5, none⟩ = some (.slice o.A o.rn o.d) ∧ wM.cell? ⟨g, 6, none⟩ = some (.slice o.X o.m o.y) ∧ wM.cell? ⟨g, 7, none⟩ = some (.int .i64 o.r.id)) ∧ wM.cell? ⟨g1, q, none⟩ = some (.pointer (some ⟨rq, 0, none⟩)) := by have y0 := s_bx (k := 6) HM.out.1 rfl; have y2 := s_bx (k := 5) HM.out.1 rfl; exact ⟨⟨y0.cell 0, y0.cell 1, y0.cell 2, y0.cell 3, y0.cell 4, y0.cell 5, y0.cell 6, y0.cell 7⟩, HF2.out.2 _ ⟨y2.cell 0, y2.cell 1⟩⟩))
        have HE : Hid (FilR w wM (k + 1) g0 g1 s0 s1 r0 r1 T0' T1' R0' R1') := Lib.hid ⟨HM.out.1.sel (fun i => i) (fun i j _ _ e => e) (fun i x hi => by
          match i, hi with
          | 0, hi => exact hi
          | 1, hi => exact hi
          | 2, hi => exact hi
          | 3, hi => exact hi
          | 4, hi => exact hi
          | 5, hi => exact hi
          | i + 6, hi => simp at hi), HM.out.2, HF5.out.1, HF4.out, HF5.out.2⟩
        clear sM bM hM9
        go_wp2
        go_roundw
        case rel => exact ⟨k + 1, by omega, by go_num, Lib.hid ⟨_, _, _, _, HE.out⟩⟩
        case measure => simp [intOf]; omega
      · obtain rfl : k = n := by omega
        clear Hact
        have HCs : Hid (∀ wx (lx : List Ob), SepO w.heap.size wx lx → lx[2]? = some (.box g0 90 #[.pointer (some ⟨s0, 0, none⟩), .pointer (some ⟨s1, 0, none⟩)]) → lx[5]? = some (.box g1 91 #[.pointer (some ⟨r0, 0, none⟩), .pointer (some ⟨r1, 0, none⟩)]) → wx.cell? ⟨g0, 0, none⟩ = some (.pointer (some ⟨s0, 0, none⟩)) ∧ wx.cell? ⟨g0, 1, none⟩ = some (.pointer (some ⟨s1, 0, none⟩)) ∧ wx.cell? ⟨g1, 0, none⟩ = some (.pointer (some ⟨r0, 0, none⟩)) ∧ wx.cell? ⟨g1, 1, none⟩ = some (.pointer (some ⟨r1, 0, none⟩))) := Lib.hid fun wx lx hs h2 h5 => by
          have y1 := s_bx (k := 2) hs h2
          have y2 := s_bx (k := 5) hs h5
          exact ⟨y1.cell 0, y1.cell 1, y2.cell 0, y2.cell 1⟩
        have HG := Lib.hid (And.intro (s_good (k := 0) HL.out.sep rfl) (s_good (k := 1) HL.out.sep rfl))
        have HInt := Lib.hid HL.out.int.1
        have HLen : Hid (T0.length ≤ 100 ∧ T1.length ≤ 100) := Lib.hid (by have := HL.out.len; omega)
        have HSl : Hid ((saveT T0).length ≤ 100000) := Lib.hid (by
          have h1 := (save_len HG.out.1 (by have := HLen.out.1; omega)).1
          have h2 := HLen.out.1
          have h3 := HL.out.int.2.1
          omega)
        have HBack : Hid (loadT (saveT T0) = T0) := Lib.hid (load_save HG.out.1 (HInt.out.1.list HG.out.1) (by have := HSl.out; omega) (by have := HLen.out.1; omega))
        have heq : (saveT T0 == saveT T1) = decide (R0.L = R1.L ∧ R0.Q = R1.Q) := by
          by_cases hT : T0 = T1
          · rw [decide_eq_true ((ref_ext HL.out.rel.1 HL.out.rel.2 HG.out.1 HG.out.2).2 hT)]
            subst hT
            simp
          · rw [decide_eq_false fun h => hT ((ref_ext HL.out.rel.1 HL.out.rel.2 HG.out.1 HG.out.2).1 h)]
            exact beq_eq_false_iff_ne.2 fun e => hT (save_inj HG.out.1 HG.out.2 HInt.out.1 HInt.out.2 (by have := HLen.out.1; omega) (by have := HLen.out.2; omega) e)
        have HSm : Hid (∀ wx (lx : List Ob), SepO w.heap.size wx lx → lx[3]? = some (.ref r0 R0) → lx[4]? = some (.ref r1 R1) → Calls Try.prog 62 #[.pointer (some ⟨r0, 0, none⟩), .pointer (some ⟨r1, 0, none⟩)] wx fun e w' => e = .returned (.bool (decide (R0.L = R1.L ∧ R0.Q = R1.Q))) ∧ SepO w.heap.size w' lx ∧ Below wx.heap.size wx w') := Lib.hid fun wx lx hs h3 h4 =>
          s_same hs h3 h4 ⟨⟨by have := HL.out.len; omega, by have := HL.out.len; omega⟩, by have := HL.out.len; omega, by have := HL.out.len; omega⟩
        have HSt := Lib.hid (fun wx (lx : List Ob) (hs : SepO w.heap.size wx lx) sx (hi : lx[6]? = some (.tab sx T0)) (hj : lx[3]? = some (.ref r0 R0)) (hb : Below w.heap.size w wx) => same17_any (i := 6) (j := 3) hs hi hj HL.out.rel.1 ⟨by have := HL.out.len; omega, by have := HL.out.len; omega⟩ A k c w.heap.size l (HS17.out wx hb) hb.size HN0.out)
        have HLd : Hid (∀ wx (lx : List Ob), SepO w.heap.size wx lx → w.heap.size ≤ wx.heap.size → Calls Try.prog 60 #[.string ⟨(saveT T0).toArray⟩] wx fun e w' => ∃ sx, e = .returned (.tuple #[.pointer (some ⟨sx, 0, none⟩), .int .i64 0]) ∧ SepO w.heap.size w' (lx ++ [.tab sx T0]) ∧ Below wx.heap.size wx w') := Lib.hid fun wx lx hs hb => by
          have e1 : (⟨(saveT T0).toArray⟩ : ByteArray).data.toList = saveT T0 := by simp
          have h1 := s_load hs hb ⟨(saveT T0).toArray⟩ (by have := HSl.out; rw [← size_bytes, e1]; exact this)
          rw [e1, HBack.out] at h1
          refine h1.mono ?_
          rintro e w' ⟨b, -, ⟨-, sx, rfl, q⟩ | ⟨q, -⟩⟩
          · exact ⟨sx, rfl, q, b⟩
          · exact absurd rfl q
        obtain ⟨ST0, hST0⟩ : ∃ ST, saveT T0 = ST := ⟨_, rfl⟩
        obtain ⟨ST1, hST1⟩ : ∃ ST, saveT T1 = ST := ⟨_, rfl⟩
        have HS0 : Hid (∀ wx (lx : List Ob), SepO w.heap.size wx lx → lx[0]? = some (.tab s0 T0) → Calls Try.prog 61 #[.pointer (some ⟨s0, 0, none⟩)] wx fun e w' => e = .returned (.string ⟨ST0.toArray⟩) ∧ SepO w.heap.size w' lx ∧ Below wx.heap.size wx w') := Lib.hid fun wx lx hs h0 => hST0 ▸ s_save hs h0 HInt.out.1 (by have := HLen.out.1; omega)
        have HS1 : Hid (∀ wx (lx : List Ob), SepO w.heap.size wx lx → lx[1]? = some (.tab s1 T1) → Calls Try.prog 61 #[.pointer (some ⟨s1, 0, none⟩)] wx fun e w' => e = .returned (.string ⟨ST1.toArray⟩) ∧ SepO w.heap.size w' lx ∧ Below wx.heap.size wx w') := Lib.hid fun wx lx hs h0 => hST1 ▸ s_save hs h0 HInt.out.2 (by have := HLen.out.2; omega)
        have HSX : Hid (∀ sx wx (lx : List Ob), SepO w.heap.size wx lx → lx[6]? = some (.tab sx T0) → Calls Try.prog 61 #[.pointer (some ⟨sx, 0, none⟩)] wx fun e w' => e = .returned (.string ⟨ST0.toArray⟩) ∧ SepO w.heap.size w' lx ∧ Below wx.heap.size wx w') := Lib.hid fun sx wx lx hs h0 => hST0 ▸ s_save hs h0 HInt.out.1 (by have := HLen.out.1; omega)
        rw [hST0] at HLd
        rw [hST0, hST1] at heq
        obtain ⟨z, hz⟩ : ∃ z, decide (R0.L = R1.L ∧ R0.Q = R1.Q) = z := ⟨_, rfl⟩
        rw [hz] at heq HSm
        have hb0 : (ST0 == ST0) = true := by simp
        clear hST0 hST1 hz
        obtain ⟨t0, t1, t2, t3⟩ := HCs.out _ _ HL.out.sep rfl rfl
        go_wp2_with fail
        refine (HS0.out _ _ HL.out.sep rfl).mono ?_
        rintro e w5 ⟨rfl, S5, b5⟩
        have H5 := Lib.hid (And.intro S5 (HL.out.below.trans (b5.mono HL.out.below.size)))
        clear S5 b5 t0 t1 t2 t3
        go_wp2_with fail
        refine (HLd.out _ _ H5.out.1 H5.out.2.size).mono ?_
        rintro e w6 ⟨sx, rfl, S6, b6⟩
        have hdr : Below w6.heap.size w6 w6.drew := (Below.refl _ _).drew
        have HS := Lib.hid (And.intro (s_below S6 hdr) ((H5.out.2.trans (b6.mono H5.out.2.size)).trans (hdr.mono (Nat.le_trans H5.out.2.size b6.size))))
        clear S6 b6 hdr HLd H5
        cases z
        all_goals
          go_wp2
          go_region_held3 (fun wx => wx.cell? ⟨g0, 0, none⟩ = some (.pointer (some ⟨s0, 0, none⟩)) ∧ wx.cell? ⟨g0, 1, none⟩ = some (.pointer (some ⟨s1, 0, none⟩)) ∧ wx.cell? ⟨g1, 0, none⟩ = some (.pointer (some ⟨r0, 0, none⟩)) ∧ wx.cell? ⟨g1, 1, none⟩ = some (.pointer (some ⟨r1, 0, none⟩)))
            (first | exact HCs.out _ _ HS.out.1 rfl rfl)
            (first
              | (go_at_call 55; refine (HSt.out _ _ HS.out.1 sx rfl rfl HS.out.2).mono ?_; rintro e wS ⟨rfl, sS, bS⟩; have HS := Lib.hid (And.intro sS (HS.out.2.trans (bS.mono HS.out.2.size))))
              | (go_at_call_of 61 (Value.pointer (some ⟨sx, 0, none⟩)); refine (HSX.out sx _ _ HS.out.1 rfl).mono ?_; rintro e wS ⟨rfl, sS, bS⟩; have HS := Lib.hid (And.intro sS (HS.out.2.trans (bS.mono HS.out.2.size))))
              | (go_at_call_of 61 (Value.pointer (some ⟨s0, 0, none⟩)); refine (HS0.out _ _ HS.out.1 rfl).mono ?_; rintro e wS ⟨rfl, sS, bS⟩; have HS := Lib.hid (And.intro sS (HS.out.2.trans (bS.mono HS.out.2.size))))
              | (go_at_call_of 61 (Value.pointer (some ⟨s1, 0, none⟩)); refine (HS1.out _ _ HS.out.1 rfl).mono ?_; rintro e wS ⟨rfl, sS, bS⟩; have HS := Lib.hid (And.intro sS (HS.out.2.trans (bS.mono HS.out.2.size))))
              | (go_at_call 62; refine (HSm.out _ _ HS.out.1 rfl rfl).mono ?_; rintro e wS ⟨rfl, sS, bS⟩; have HS := Lib.hid (And.intro sS (HS.out.2.trans (bS.mono HS.out.2.size)))))
          have HSz := Lib.hid HS.out
          clear sS bS
          have HLs := Lib.hid (s_load HSz.out.1 HSz.out.2.size s Hs3.out)
          go_wp2_with fail
          refine HLs.out.mono ?_
          rintro e w7 ⟨b7, ⟨i7, l7⟩, ⟨q7, sy, rfl, S7⟩ | ⟨q7, rfl⟩⟩
          · have HSy := Lib.hid (s_save (k := 7) S7 rfl i7 l7)
            have HB7 := Lib.hid (HSz.out.2.trans (b7.mono HSz.out.2.size))
            have hsy : (saveT (loadT s.data.toList) == s.toList) = true := by
              rw [q7, Lib.toList_data]
              simp
            obtain ⟨SY, hSY⟩ : ∃ SY, saveT (loadT s.data.toList) = SY := ⟨_, rfl⟩
            rw [hSY] at HSy hsy
            clear hSY q7 S7 b7 i7 l7
            go_wp2_with fail
            refine HSy.out.mono ?_
            rintro e w8 ⟨rfl, -, b8⟩
            have HE := Lib.hid (HB7.out.trans (b8.mono HB7.out.size))
            clear b8
            go_wp2
            go_ret
            exact ⟨rfl, HE.out⟩
          · have HE := Lib.hid (HSz.out.2.trans (b7.mono HSz.out.2.size))
            clear b7 q7 i7 l7
            go_wp2
            go_ret
            exact ⟨rfl, HE.out⟩

namespace lawOnceSaves
open Go.ChangeShapes Go.WideShapes Go.ChangeAt

theorem own : ownKnob Try.prog.godebug = none := by kernel_rfl
theorem kids : Kids Try.prog (· < Try.prog.types.size) := kids_rows (by kernel_rfl) (by kernel_rfl)
theorem full : ∀ t e, t < Try.prog.types.size → Try.prog.underlying t = some (.slice e) → 0 < Try.prog.cellsOf e := slices_full_of Try.prog (by kernel_rfl)

set_option maxRecDepth 100000 in
theorem lifted (os : Os) (started : os.Started) (H : Type) (enc : TypeId × Value → H) :
    ReturnsInHanded {} Try.checked os 12 .any (Rows.onceSavesSpec.pre6 enc Try.prog Try.f12 Rows.onceSavesRow.domain false) (Rows.onceSavesSpec.post enc Try.prog Try.f12 false true false false) := by
  refine returnsInHanded_of_change (C := Try.checked) own started (by kernel_rfl) Try.func12
    (ChangeSpec.witness6 (enc := enc) (C := Try.checked) false ⟨#[], #[.slice none 0 0, .string ⟨#[]⟩], []⟩ 8 (by kernel_rfl) (by kernel_rfl) (by kernel_rfl) (by kernel_rfl)) ?_
  intro W base args ds gs before hval0 hW _ _
  have hval : ∀ (j : Nat) t v, Try.f12.params[j]? = some t → args[j]? = some v → Value.okWide Try.prog W .any base t v := hval0
  have hW' := hW
  obtain ⟨p, q, hA0, hV, rfl, _, _⟩ := hW
  obtain ⟨rfl, rfl⟩ := trodVars_none hV
  have hA : DataW.TrodAll enc Try.prog W 0 (fun _ => true) true Try.f12.params.toList args.toList ds p := hA0
  rw [Try.params12] at hA hval
  obtain ⟨v0, vs0, d0, ds0, p0, q0, hargs, rfl, rfl, h0, r0⟩ := trodAll_cons hA
  obtain ⟨v1, vs1, d1, ds1, p1, q1, rfl, rfl, rfl, h1, r1⟩ := trodAll_cons r0
  obtain ⟨rfl, rfl, rfl⟩ := trodAll_nil r1
  obtain rfl : args = #[v0, v1] := by cases args; simp_all
  have hlt := hW'.lt
  obtain ⟨A0, n0, c0, l0, rfl, hnc0, hm0, ha0⟩ := open_oas (hval 0 70 v0 rfl rfl) h0 (fun x hx => hlt x (by simp [hx]))
  obtain ⟨s1, rfl, _, _, ws1⟩ := Go.ChangeMaps.open_string Try.underlying9 (hval 1 9 v1 rfl rfl) h1
  refine (saves_walk A0 n0 c0 l0 s1 W ha0 (Nat.le_trans hnc0 hm0)).mono fun e W' ⟨he, hbel⟩ => ?_
  subst he
  exact ⟨_, rfl, law_post kids full (of_decide_eq_true (by kernel_rfl)) Try.underlying4 rfl rfl rfl hW' hbel⟩

theorem proved : Rows.OnceSavesSaid :=
  OpenClaim.holds_of_wide 12 Try.f12 rfl rfl rfl rfl rfl rfl rfl ⟨rfl, rfl, rfl, rfl, rfl⟩ rfl rfl rfl rfl rfl (by kernel_rfl) Try.func12 (by kernel_rfl)
    (of_decide_eq_true (by kernel_rfl)) (by unfold Func.isWrapper; first | (rw [if_pos (by decide +kernel)]; kernel_rfl) | (rw [if_neg (by decide +kernel)]; exact ⟨rfl, rfl⟩))
    (fun os started H enc _ => lifted os started H enc)
end lawOnceSaves

end Go.Proofs.Ytdfhnjocpfjagaa

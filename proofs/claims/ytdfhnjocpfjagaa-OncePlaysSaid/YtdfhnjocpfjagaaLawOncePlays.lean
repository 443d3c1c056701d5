/- OncePlays: whatever is kept, each call answers what the document says. No condition. -/
import Derived.Test.YtdfhnjocpfjagaaOnP
import Derived.Test.YtdfhnjocpfjagaaSepB
import Derived.Test.YtdfhnjocpfjagaaRow
namespace Go.Proofs.Ytdfhnjocpfjagaa
open Go.RowKit

theorem store8 {w W : World} {g : Nat} {t : TypeId} {y0 y1 y2 y3 y4 y5 y6 y7 x0 x1 x2 x3 x4 x5 x6 x7 : Value} (h : Box w g t #[y0, y1, y2, y3, y4, y5, y6, y7]) (hW : ((((((((w.setCell ⟨g, 0, none⟩ x0).setCell ⟨g, 1, none⟩ x1).setCell ⟨g, 2, none⟩ x2).setCell ⟨g, 3, none⟩ x3).setCell ⟨g, 4, none⟩ x4).setCell ⟨g, 5, none⟩ x5).setCell ⟨g, 6, none⟩ x6).setCell ⟨g, 7, none⟩ x7) = W) :
    Box W g t #[x0, x1, x2, x3, x4, x5, x6, x7] ∧ w.grownBy W (some g) ∧ W.heap.size = w.heap.size := by
  subst hW
  have b0 : Box _ g t #[x0, y1, y2, y3, y4, y5, y6, y7] := h.set_ 0 x0
  have b1 : Box _ g t #[x0, x1, y2, y3, y4, y5, y6, y7] := b0.set_ 1 x1
  have b2 : Box _ g t #[x0, x1, x2, y3, y4, y5, y6, y7] := b1.set_ 2 x2
  have b3 : Box _ g t #[x0, x1, x2, x3, y4, y5, y6, y7] := b2.set_ 3 x3
  have b4 : Box _ g t #[x0, x1, x2, x3, x4, y5, y6, y7] := b3.set_ 4 x4
  have b5 : Box _ g t #[x0, x1, x2, x3, x4, x5, y6, y7] := b4.set_ 5 x5
  have b6 : Box _ g t #[x0, x1, x2, x3, x4, x5, x6, y7] := b5.set_ 6 x6
  have b7 : Box _ g t #[x0, x1, x2, x3, x4, x5, x6, x7] := b6.set_ 7 x7
  have tr : ∀ {a b c : World}, a.grownBy b (some g) → b.grownBy c (some g) → a.grownBy c (some g) := fun h1 h2 =>
    ⟨h2.os.trans h1.os, h2.tape.trans h1.tape, h2.output.trans h1.output, Nat.le_trans h1.size h2.size, fun k hk hne => (h2.block k (Nat.lt_of_lt_of_le hk h1.size) hne).trans (h1.block k hk hne)⟩
  exact ⟨b7, tr (tr (tr (tr (tr (tr (tr (grown_set _ g 0 x0) (grown_set _ g 1 x1)) (grown_set _ g 2 x2)) (grown_set _ g 3 x3)) (grown_set _ g 4 x4)) (grown_set _ g 5 x5)) (grown_set _ g 6 x6)) (grown_set _ g 7 x7), by simp⟩
/-- the program's table, and the document's beside it, behind k calls -/
structure PlR (w wr : World) (k sb rb : Nat) (T : Tb) (R : Rf) : Prop where
  sep : SepO w.heap.size wr [.tab sb T, .ref rb R]
  below : Below w.heap.size w wr
  rel : Rel R T
  len : T.length ≤ k ∧ R.L.length ≤ k ∧ R.Q.length ≤ k
set_option maxRecDepth 100000 in
set_option maxHeartbeats 12800000 in
theorem plays_walk (A : Option Addr) (n c : Nat) (l : List ActO) (w : World) (h : HasOas w w.heap.size A n l) (hn : n ≤ maxLen) :
    Calls Try.prog 9 #[.slice A n c] w fun e w' => e = .returned (.bool true) ∧ Below w.heap.size w w' := by
  have H := Lib.hid h
  have hl := h.1
  have HLi := Lib.hid (fun wx (hb : Below w.heap.size w wx) => light17_any A n c w.heap.size l wx (h.belowOf hb (Nat.le_refl _)) hb.size hn)
  have Hact : Hid (∀ (k : Nat), k < n → ∃ a o, A = some a ∧ l[k]? = some o ∧ ActOk w w.heap.size o ∧ ∀ wx, Below w.heap.size w wx → (wx.cell? (a.add (k * 8)) = some (.int .i64 o.who) ∧ wx.cell? ⟨(a.add (k * 8)).block, (a.add (k * 8)).off + 1, none⟩ = some (.int .i64 o.c) ∧ wx.cell? ⟨(a.add (k * 8)).block, (a.add (k * 8)).off + 2, none⟩ = some (.int .i64 o.n) ∧ wx.cell? ⟨(a.add (k * 8)).block, (a.add (k * 8)).off + 3, none⟩ = some (.int .i64 o.r.code) ∧ wx.cell? ⟨(a.add (k * 8)).block, (a.add (k * 8)).off + 3 + 1, none⟩ = some (.bool o.r.there) ∧ wx.cell? ⟨(a.add (k * 8)).block, (a.add (k * 8)).off + 3 + 2, none⟩ = some (.slice o.A o.rn o.d) ∧ wx.cell? ⟨(a.add (k * 8)).block, (a.add (k * 8)).off + 3 + 3, none⟩ = some (.slice o.X o.m o.y) ∧ wx.cell? ⟨(a.add (k * 8)).block, (a.add (k * 8)).off + 3 + 4, none⟩ = some (.int .i64 o.r.id))) := Lib.hid fun k hk => by
    obtain ⟨a, o, e, hab, ho, ⟨c0, c1, c2, c3, c4, c5, c6, c7⟩, hok⟩ := h.at_ hk
    have kk : ∀ wx, Below w.heap.size w wx → ∀ p : Addr, p.block = a.block → wx.cell? p = w.cell? p := fun wx hx p hp => hx.cell (by omega)
    exact ⟨a, o, e, ho, hok, fun wx hx => ⟨(kk wx hx _ (addr_block _ _)).trans c0, (kk wx hx _ (by simp [addr_block])).trans c1, (kk wx hx _ (by simp [addr_block])).trans c2, (kk wx hx _ (by simp [addr_block])).trans c3, (kk wx hx _ (by simp [addr_block])).trans c4, (kk wx hx _ (by simp [addr_block])).trans c5, (kk wx hx _ (by simp [addr_block])).trans c6, (kk wx hx _ (by simp [addr_block])).trans c7⟩⟩
  have HS17 := Lib.hid (fun wx (hb : Below w.heap.size w wx) => h.belowOf hb (Nat.le_refl _))
  have hn0 := hn
  have HN0 := Lib.hid hn0
  unfold maxLen at hn
  clear h hn0
  go_enter Try.func9, Try.ntmps9
  go_wp2_with fail
  refine (awake17_any _).mono ?_
  rintro e w1 ⟨rfl, b1⟩
  have B1 := Lib.hid b1
  clear b1
  go_wp2_with fail
  refine (HLi.out w1 B1.out).mono ?_
  rintro e w2 ⟨t, rfl, ht, b2⟩
  have B2 := Lib.hid (B1.out.trans (b2.mono B1.out.size))
  have Ht := Lib.hid ht
  clear ht b2
  cases t with
  | false =>
    go_wp2
    go_ret
    exact ⟨rfl, B2.out⟩
  | true =>
    have hn100 : n < 100 := Ht.out rfl
    clear Ht
    obtain ⟨hn1, hn2⟩ : n < 100 ∧ n ≤ 100 := ⟨hn100, by omega⟩
    clear hn100
    have Hn1 := Lib.hid (s_new (Sep.nil : SepO w.heap.size w2 []) B2.out.size)
    go_wp2_with fail
    refine Hn1.out.mono ?_
    rintro e w3 ⟨sb, rfl, S3, b3⟩
    have B3 := Lib.hid (B2.out.trans (b3.mono B2.out.size))
    have HS4 := Lib.hid (s_rnew S3 B3.out.size (t := 78) rfl)
    have B4 := Lib.hid (B3.out.trans ((below_box (w := w3) (.cells #[.slice none 0 0, .slice none 0 0] 78)).mono B3.out.size))
    have H4 : Hid (PlR w _ 0 sb w3.heap.size [] Rf.nil) := Lib.hid ⟨HS4.out, B4.out, Rel.nil, Nat.le_refl _, Nat.le_refl _, Nat.le_refl _⟩
    clear S3 b3 HS4
    go_wp2
    obtain ⟨rb, hrb⟩ : ∃ rb, w3.heap.size = rb := ⟨_, rfl⟩
    rw [hrb] at H4 ⊢
    clear hrb
    go_loopw [5] (fun iv wr => ∃ k : Nat, k ≤ n ∧ iv = .int .i64 (k : Int) ∧ Hid (∃ T R, PlR w wr k sb rb T R)) (fun iv _ => n - (intOf iv).toNat)
    case atStart => exact ⟨0, by omega, rfl, Lib.hid ⟨_, _, H4.out⟩⟩
    case round =>
      obtain ⟨k, hk, rfl, HL0⟩ := hrel
      obtain ⟨T, R, hL⟩ := HL0.out
      have HL := Lib.hid hL
      clear HL0 hL HLi Hn1 H4 B4
      by_cases hlt : k < n
      · obtain ⟨a, o, rfl, ho, hok, hX⟩ := Hact.out k hlt
        have Hok := Lib.hid hok
        have hk0 : (0 : Int) ≤ (k : Int) := by omega
        have hk1 : (k : Int) < (n : Int) := by omega
        have HKT : Hid (∀ wx Tx (lx : List Ob), SepO w.heap.size wx lx → Below w.heap.size w wx → lx[0]? = some (.tab sb Tx) → Tx.length ≤ 100000 → Calls Try.prog 53 #[.pointer (some ⟨sb, 0, none⟩), .int .i64 o.c, .int .i64 o.n, .agg #[.int .i64 o.r.code, .bool o.r.there, .slice o.A o.rn o.d, .slice o.X o.m o.y, .int .i64 o.r.id]] wx fun e w' =>
            e = .returned (.int .i64 (keepE o.c o.n o.r o.m Tx)) ∧ SepO w.heap.size w' (lx.set 0 (.tab sb (keepT o.c o.n o.r o.m Tx))) ∧ Below w.heap.size wx w') := Lib.hid fun wx Tx lx hs hb hj hT =>
          s_keep hs hb.size hj hT o.c o.n hok.cw hok.nw o.r o.A o.rn o.d o.m o.X o.y w.heap.size (hok.rp.vals.belowOf hb (Nat.le_refl _)) hok.rp.len hb.size hok.rp.num
        have HKR : Hid (∀ wx (lx : List Ob), SepO w.heap.size wx lx → Below w.heap.size w wx → lx[1]? = some (.ref rb R) → Calls Try.prog 54 #[.pointer (some ⟨rb, 0, none⟩), .int .i64 o.c, .int .i64 o.n, .agg #[.int .i64 o.r.code, .bool o.r.there, .slice o.A o.rn o.d, .slice o.X o.m o.y, .int .i64 o.r.id]] wx fun e w' =>
            e = .returned (.int .i64 (keepRE o.c o.n o.r o.m R)) ∧ SepO w.heap.size w' (lx.set 1 (.ref rb (keepR o.c o.n o.r o.m R))) ∧ Below w.heap.size wx w') := Lib.hid fun wx lx hs hb hj =>
          s_rkeep hs hb.size hj ⟨by have := HL.out.len; omega, by have := HL.out.len; omega⟩ HL.out.rel.rq HL.out.rel.lex o.c o.n o.r o.A o.rn o.d o.m o.X o.y w.heap.size (hok.rp.vals.belowOf hb (Nat.le_refl _)) hok.rp.len hb.size
        rw [keepE_rel HL.out.rel] at HKR
        obtain ⟨c0, c1, c2, c3, c4, c5, c6, c7⟩ := hX wr HL.out.below
        obtain ⟨R5, hR5⟩ : ∃ R5, lookT o.c o.n T = R5 := ⟨_, rfl⟩
        have HL1 : Hid (∀ wx (lx : List Ob), SepO w.heap.size wx lx → lx[0]? = some (.tab sb T) → Calls Try.prog 50 #[.pointer (some ⟨sb, 0, none⟩), .int .i64 o.c, .int .i64 o.n] wx (LookPost R5 wx)) := Lib.hid fun wx lx hs hj => hR5 ▸ (s_look hs hj o.c o.n hok.cw hok.nw).mono fun _ _ h => h.1
        have HL2 : Hid (∀ wx (lx : List Ob), SepO w.heap.size wx lx → lx[1]? = some (.ref rb R) → Calls Try.prog 51 #[.pointer (some ⟨rb, 0, none⟩), .int .i64 o.c, .int .i64 o.n] wx (RefLook R5 wx)) := Lib.hid fun wx lx hs hj => by
          have h9 := s_rlook hs hj ⟨by have := HL.out.len; omega, by have := HL.out.len; omega⟩ HL.out.rel.rq o.c o.n
          rw [look_rel HL.out.rel, hR5] at h9
          exact h9
        clear hX hR5 hok ho
        obtain ⟨⟨code, there, rc, id⟩, z⟩ := R5
        obtain ⟨w4a, hw4a⟩ : ∃ wx, wr.alloc (.cells #[.int .i64 0, .int .i64 0, .int .i64 0, .int .i64 0, .bool false, .slice none 0 0, .slice none 0 0, .int .i64 0] 84) = wx := ⟨_, rfl⟩
        have xw4a : Box w4a wr.heap.size 84 #[.int .i64 0, .int .i64 0, .int .i64 0, .int .i64 0, .bool false, .slice none 0 0, .slice none 0 0, .int .i64 0] := hw4a ▸ Box.made _ _ _
        have uw4a : Below wr.heap.size wr w4a := hw4a ▸ below_box _
        obtain ⟨w4, hw4⟩ : ∃ wx, ((((((((w4a.setCell ⟨wr.heap.size, 0, none⟩ (.int .i64 o.who)).setCell ⟨wr.heap.size, 1, none⟩ (.int .i64 o.c)).setCell ⟨wr.heap.size, 2, none⟩ (.int .i64 o.n)).setCell ⟨wr.heap.size, 3, none⟩ (.int .i64 o.r.code)).setCell ⟨wr.heap.size, 4, none⟩ (.bool o.r.there)).setCell ⟨wr.heap.size, 5, none⟩ (.slice o.A o.rn o.d)).setCell ⟨wr.heap.size, 6, none⟩ (.slice o.X o.m o.y)).setCell ⟨wr.heap.size, 7, none⟩ (.int .i64 o.r.id)) = wx := ⟨_, rfl⟩
        obtain ⟨xw4, gw4, sw4⟩ := store8 xw4a hw4
        have uw4 : Below wr.heap.size wr w4 := uw4a.grown gw4 uw4a.size (fun g hg => by injection hg with hg; omega)
        have k0 : w4a.cell? ⟨wr.heap.size, 0, none⟩ = some (.int .i64 0) := xw4a.cell 0
        have k1 : w4a.cell? ⟨wr.heap.size, 1, none⟩ = some (.int .i64 0) := xw4a.cell 1
        have k2 : w4a.cell? ⟨wr.heap.size, 2, none⟩ = some (.int .i64 0) := xw4a.cell 2
        have k3 : w4a.cell? ⟨wr.heap.size, 3, none⟩ = some (.int .i64 0) := xw4a.cell 3
        have k4 : w4a.cell? ⟨wr.heap.size, 4, none⟩ = some (.bool false) := xw4a.cell 4
        have k5 : w4a.cell? ⟨wr.heap.size, 5, none⟩ = some (.slice none 0 0) := xw4a.cell 5
        have k6 : w4a.cell? ⟨wr.heap.size, 6, none⟩ = some (.slice none 0 0) := xw4a.cell 6
        have k7 : w4a.cell? ⟨wr.heap.size, 7, none⟩ = some (.int .i64 0) := xw4a.cell 7
        have f0 : w4a.frozen? ⟨wr.heap.size, 0, none⟩ = false := xw4a.frozen 0
        have f1 : w4a.frozen? ⟨wr.heap.size, 1, none⟩ = false := xw4a.frozen 1
        have f2 : w4a.frozen? ⟨wr.heap.size, 2, none⟩ = false := xw4a.frozen 2
        have f3 : w4a.frozen? ⟨wr.heap.size, 3, none⟩ = false := xw4a.frozen 3
        have f4 : w4a.frozen? ⟨wr.heap.size, 4, none⟩ = false := xw4a.frozen 4
        have f5 : w4a.frozen? ⟨wr.heap.size, 5, none⟩ = false := xw4a.frozen 5
        have f6 : w4a.frozen? ⟨wr.heap.size, 6, none⟩ = false := xw4a.frozen 6
        have f7 : w4a.frozen? ⟨wr.heap.size, 7, none⟩ = false := xw4a.frozen 7
        have H4 := Lib.hid (And.intro (s_box HL.out.sep HL.out.below.size uw4 xw4 (Nat.le_refl _)) (HL.out.below.trans (uw4.mono HL.out.below.size)))
        have e1 : w4.cell? ⟨wr.heap.size, 1, none⟩ = some (.int .i64 o.c) := xw4.cell 1
        have e2 : w4.cell? ⟨wr.heap.size, 2, none⟩ = some (.int .i64 o.n) := xw4.cell 2
        clear xw4a uw4a xw4 gw4 sw4 uw4
        go_wp2_with fail
        refine (HL1.out _ _ H4.out.1 rfl).mono ?_
        rintro e w5 ⟨v5, rfl, ⟨A5, c5, rfl, o5⟩, b5⟩
        have H5 := Lib.hid (And.intro (s_below H4.out.1 b5) (And.intro (H4.out.2.trans (b5.mono H4.out.2.size)) (OwnVals.has o5).2))
        have hrc : rc.length ≤ maxLen := by obtain ⟨_, _, e, h1, h2, -⟩ := own_sliceN o5; exact Nat.le_trans h1 h2
        clear o5 b5
        obtain ⟨w6a, hw6a⟩ : ∃ wx, w5.alloc (.cells #[.int .i64 0, .bool false, .slice none 0 0, .slice none 0 0, .int .i64 0] 82) = wx := ⟨_, rfl⟩
        have xw6a : Box w6a w5.heap.size 82 #[.int .i64 0, .bool false, .slice none 0 0, .slice none 0 0, .int .i64 0] := hw6a ▸ Box.made _ _ _
        have uw6a : Below w5.heap.size w5 w6a := hw6a ▸ below_box _
        obtain ⟨w6, hw6⟩ : ∃ wx, (((((w6a.setCell ⟨w5.heap.size, 0, none⟩ (.int .i64 code)).setCell ⟨w5.heap.size, 1, none⟩ (.bool there)).setCell ⟨w5.heap.size, 2, none⟩ (.slice A5 rc.length c5)).setCell ⟨w5.heap.size, 3, none⟩ (.slice none 0 0)).setCell ⟨w5.heap.size, 4, none⟩ (.int .i64 id)) = wx := ⟨_, rfl⟩
        obtain ⟨xw6, gw6, sw6⟩ := store5 xw6a hw6
        have uw6 : Below w5.heap.size w5 w6 := uw6a.grown gw6 uw6a.size (fun g hg => by injection hg with hg; omega)
        have d0 : w6a.cell? ⟨w5.heap.size, 0, none⟩ = some (.int .i64 0) := xw6a.cell 0
        have d1 : w6a.cell? ⟨w5.heap.size, 1, none⟩ = some (.bool false) := xw6a.cell 1
        have d2 : w6a.cell? ⟨w5.heap.size, 2, none⟩ = some (.slice none 0 0) := xw6a.cell 2
        have d3 : w6a.cell? ⟨w5.heap.size, 3, none⟩ = some (.slice none 0 0) := xw6a.cell 3
        have d4 : w6a.cell? ⟨w5.heap.size, 4, none⟩ = some (.int .i64 0) := xw6a.cell 4
        have j0 : w6a.frozen? ⟨w5.heap.size, 0, none⟩ = false := xw6a.frozen 0
        have j1 : w6a.frozen? ⟨w5.heap.size, 1, none⟩ = false := xw6a.frozen 1
        have j2 : w6a.frozen? ⟨w5.heap.size, 2, none⟩ = false := xw6a.frozen 2
        have j3 : w6a.frozen? ⟨w5.heap.size, 3, none⟩ = false := xw6a.frozen 3
        have j4 : w6a.frozen? ⟨w5.heap.size, 4, none⟩ = false := xw6a.frozen 4
        have H6 := Lib.hid (And.intro (s_box H5.out.1 H5.out.2.1.size uw6 xw6 (Nat.le_refl _)) (And.intro (H5.out.2.1.trans (uw6.mono H5.out.2.1.size)) (H5.out.2.2.belowOf uw6 (Nat.le_refl _))))
        have HZ5 : Hid (w5.heap.size ≤ w6.heap.size) := Lib.hid uw6.size
        have x6 := s_bx (k := 2) H6.out.1 rfl
        have e1 : w6.cell? ⟨wr.heap.size, 1, none⟩ = some (.int .i64 o.c) := x6.cell 1
        have e2 : w6.cell? ⟨wr.heap.size, 2, none⟩ = some (.int .i64 o.n) := x6.cell 2
        clear xw6a uw6a xw6 gw6 sw6 uw6 x6
        go_wp2_with fail
        refine (HL2.out _ _ H6.out.1 rfl).mono ?_
        rintro e w7 ⟨A7, d7, X7, y7, rfl, o7, b7⟩
        have H7 := Lib.hid (And.intro (s_below H6.out.1 b7) (And.intro (H6.out.2.1.trans (b7.mono H6.out.2.1.size)) (And.intro (H6.out.2.2.belowOf b7 HZ5.out) o7)))
        have HZ7 : Hid (w6.heap.size ≤ w7.heap.size) := Lib.hid b7.size
        clear o7 b7
        obtain ⟨w8a, hw8a⟩ : ∃ wx, w7.alloc (.cells #[.int .i64 0, .bool false, .slice none 0 0, .slice none 0 0, .int .i64 0] 82) = wx := ⟨_, rfl⟩
        have xw8a : Box w8a w7.heap.size 82 #[.int .i64 0, .bool false, .slice none 0 0, .slice none 0 0, .int .i64 0] := hw8a ▸ Box.made _ _ _
        have uw8a : Below w7.heap.size w7 w8a := hw8a ▸ below_box _
        obtain ⟨w8, hw8⟩ : ∃ wx, (((((w8a.setCell ⟨w7.heap.size, 0, none⟩ (.int .i64 code)).setCell ⟨w7.heap.size, 1, none⟩ (.bool there)).setCell ⟨w7.heap.size, 2, none⟩ (.slice A7 rc.length d7)).setCell ⟨w7.heap.size, 3, none⟩ (.slice X7 0 y7)).setCell ⟨w7.heap.size, 4, none⟩ (.int .i64 id)) = wx := ⟨_, rfl⟩
        obtain ⟨xw8, gw8, sw8⟩ := store5 xw8a hw8
        have uw8 : Below w7.heap.size w7 w8 := uw8a.grown gw8 uw8a.size (fun g hg => by injection hg with hg; omega)
        have p0 : w8a.cell? ⟨w7.heap.size, 0, none⟩ = some (.int .i64 0) := xw8a.cell 0
        have p1 : w8a.cell? ⟨w7.heap.size, 1, none⟩ = some (.bool false) := xw8a.cell 1
        have p2 : w8a.cell? ⟨w7.heap.size, 2, none⟩ = some (.slice none 0 0) := xw8a.cell 2
        have p3 : w8a.cell? ⟨w7.heap.size, 3, none⟩ = some (.slice none 0 0) := xw8a.cell 3
        have p4 : w8a.cell? ⟨w7.heap.size, 4, none⟩ = some (.int .i64 0) := xw8a.cell 4
        have q0 : w8a.frozen? ⟨w7.heap.size, 0, none⟩ = false := xw8a.frozen 0
        have q1 : w8a.frozen? ⟨w7.heap.size, 1, none⟩ = false := xw8a.frozen 1
        have q2 : w8a.frozen? ⟨w7.heap.size, 2, none⟩ = false := xw8a.frozen 2
        have q3 : w8a.frozen? ⟨w7.heap.size, 3, none⟩ = false := xw8a.frozen 3
        have q4 : w8a.frozen? ⟨w7.heap.size, 4, none⟩ = false := xw8a.frozen 4
        have H8 := Lib.hid (And.intro (s_box H7.out.1 H7.out.2.1.size uw8 xw8 (Nat.le_refl _)) (And.intro (H7.out.2.1.trans (uw8.mono H7.out.2.1.size)) (And.intro (H7.out.2.2.1.belowOf uw8 (Nat.le_trans HZ5.out HZ7.out)) (H7.out.2.2.2.belowOf uw8 HZ7.out))))
        have HZ8 : Hid (w7.heap.size ≤ w8.heap.size) := Lib.hid uw8.size
        have hdr : Below w8.heap.size w8 w8.drew := (Below.refl _ _).drew
        have HSR := Lib.hid (sameReply17_any ⟨code, there, rc, id⟩ ⟨code, there, rc, id⟩ A5 A7 none X7 rc.length rc.length c5 d7 0 y7 _ _ w8.drew (H8.out.2.2.1.belowOf hdr (Nat.le_trans HZ5.out (Nat.le_trans HZ7.out HZ8.out))) (H8.out.2.2.2.belowOf hdr (Nat.le_trans HZ7.out HZ8.out)) (Nat.le_trans HZ5.out (Nat.le_trans HZ7.out HZ8.out)) (Nat.le_trans HZ7.out HZ8.out) hrc hrc)
        rw [decide_eq_true rfl] at HSR
        have HD := Lib.hid (And.intro (s_below H8.out.1 hdr) (H8.out.2.1.trans (hdr.mono H8.out.2.1.size)))
        clear xw8a uw8a xw8 gw8 sw8 uw8 hdr
        go_wp2
        obtain ⟨g, hg⟩ : ∃ g, wr.heap.size = g := ⟨_, rfl⟩
        obtain ⟨g1, hg1⟩ : ∃ g1, w5.heap.size = g1 := ⟨_, rfl⟩
        obtain ⟨g2, hg2⟩ : ∃ g2, w7.heap.size = g2 := ⟨_, rfl⟩
        rw [hg, hg1, hg2] at HD
        rw [hg, hg1, hg2]
        have HBX : Hid (∀ wx Tx Rx, SepO w.heap.size wx [.tab sb Tx, .ref rb Rx, .box g 84 #[.int .i64 o.who, .int .i64 o.c, .int .i64 o.n, .int .i64 o.r.code, .bool o.r.there, .slice o.A o.rn o.d, .slice o.X o.m o.y, .int .i64 o.r.id], .box g1 82 #[.int .i64 code, .bool there, .slice A5 rc.length c5, .slice none 0 0, .int .i64 id], .box g2 82 #[.int .i64 code, .bool there, .slice A7 rc.length d7, .slice X7 0 y7, .int .i64 id]] → (wx.cell? ⟨g1, 0, none⟩ = some (.int .i64 code) ∧ wx.cell? ⟨g1, 1, none⟩ = some (.bool there) ∧ wx.cell? ⟨g1, 2, none⟩ = some (.slice A5 rc.length c5) ∧ wx.cell? ⟨g1, 3, none⟩ = some (.slice none 0 0) ∧ wx.cell? ⟨g1, 4, none⟩ = some (.int .i64 id)) ∧ (wx.cell? ⟨g2, 0, none⟩ = some (.int .i64 code) ∧ wx.cell? ⟨g2, 1, none⟩ = some (.bool there) ∧ wx.cell? ⟨g2, 2, none⟩ = some (.slice A7 rc.length d7) ∧ wx.cell? ⟨g2, 3, none⟩ = some (.slice X7 0 y7) ∧ wx.cell? ⟨g2, 4, none⟩ = some (.int .i64 id)) ∧ wx.cell? ⟨g, 1, none⟩ = some (.int .i64 o.c) ∧ wx.cell? ⟨g, 2, none⟩ = some (.int .i64 o.n) ∧ wx.cell? ⟨g, 3, none⟩ = some (.int .i64 o.r.code) ∧ wx.cell? ⟨g, 4, none⟩ = some (.bool o.r.there) ∧ wx.cell? ⟨g, 5, none⟩ = some (.slice o.A o.rn o.d) ∧ wx.cell? ⟨g, 6, none⟩ = some (.slice o.X o.m o.y) ∧ wx.cell? ⟨g, 7, none⟩ = some (.int .i64 o.r.id)) := Lib.hid fun wx Tx Rx hs => by
          have q0 := s_bx (k := 2) hs rfl
          have q1 := s_bx (k := 3) hs rfl
          have q2 := s_bx (k := 4) hs rfl
          exact ⟨⟨q1.cell 0, q1.cell 1, q1.cell 2, q1.cell 3, q1.cell 4⟩, ⟨q2.cell 0, q2.cell 1, q2.cell 2, q2.cell 3, q2.cell 4⟩, q0.cell 1, q0.cell 2, q0.cell 3, q0.cell 4, q0.cell 5, q0.cell 6, q0.cell 7⟩
        have HT : Hid (T.length ≤ 100000) := Lib.hid (by have := HL.out.len; omega)
        obtain ⟨zk, hzk⟩ : ∃ zk, keepE o.c o.n o.r o.m T = zk := ⟨_, rfl⟩
        have HKT0 : Hid (∀ wx (lx : List Ob), SepO w.heap.size wx lx → Below w.heap.size w wx → lx[0]? = some (.tab sb T) → Calls Try.prog 53 #[.pointer (some ⟨sb, 0, none⟩), .int .i64 o.c, .int .i64 o.n, .agg #[.int .i64 o.r.code, .bool o.r.there, .slice o.A o.rn o.d, .slice o.X o.m o.y, .int .i64 o.r.id]] wx fun e w' =>
            e = .returned (.int .i64 zk) ∧ SepO w.heap.size w' (lx.set 0 (.tab sb (keepT o.c o.n o.r o.m T))) ∧ Below w.heap.size wx w') := Lib.hid fun wx lx hs hb hj => hzk ▸ HKT.out wx T lx hs hb hj HT.out
        rw [hzk] at HKR
        clear hg hg1 hg2 hzk HKT
        go_region_held3 (fun wx => (wx.cell? ⟨g1, 0, none⟩ = some (.int .i64 code) ∧ wx.cell? ⟨g1, 1, none⟩ = some (.bool there) ∧ wx.cell? ⟨g1, 2, none⟩ = some (.slice A5 rc.length c5) ∧ wx.cell? ⟨g1, 3, none⟩ = some (.slice none 0 0) ∧ wx.cell? ⟨g1, 4, none⟩ = some (.int .i64 id)) ∧ (wx.cell? ⟨g2, 0, none⟩ = some (.int .i64 code) ∧ wx.cell? ⟨g2, 1, none⟩ = some (.bool there) ∧ wx.cell? ⟨g2, 2, none⟩ = some (.slice A7 rc.length d7) ∧ wx.cell? ⟨g2, 3, none⟩ = some (.slice X7 0 y7) ∧ wx.cell? ⟨g2, 4, none⟩ = some (.int .i64 id)) ∧ wx.cell? ⟨g, 1, none⟩ = some (.int .i64 o.c) ∧ wx.cell? ⟨g, 2, none⟩ = some (.int .i64 o.n) ∧ wx.cell? ⟨g, 3, none⟩ = some (.int .i64 o.r.code) ∧ wx.cell? ⟨g, 4, none⟩ = some (.bool o.r.there) ∧ wx.cell? ⟨g, 5, none⟩ = some (.slice o.A o.rn o.d) ∧ wx.cell? ⟨g, 6, none⟩ = some (.slice o.X o.m o.y) ∧ wx.cell? ⟨g, 7, none⟩ = some (.int .i64 o.r.id))
          (first | exact HBX.out _ _ _ HD.out.1 | exact HBX.out _ _ _ sS | exact HBX.out _ _ _ sT | exact HBX.out _ _ _ sM)
          (first
            | (go_at_call 52; refine HSR.out.mono ?_; rintro e wS ⟨rfl, bS⟩; have sS := s_below HD.out.1 bS; have cS : Below w.heap.size w wS := HD.out.2.trans (bS.mono HD.out.2.size))
            | (go_at_call 53; refine (HKT0.out _ _ sS cS rfl).mono ?_; rintro e wT ⟨rfl, sT, bT⟩; have cT : Below w.heap.size w wT := cS.trans bT)
            | (go_at_call 54; refine (HKR.out _ _ sT cT rfl).mono ?_; rintro e wM ⟨rfl, sM, bM⟩; have cM : Below w.heap.size w wM := cT.trans bM))
        have HE : Hid (PlR w wM (k + 1) sb rb (keepT o.c o.n o.r o.m T) (keepR o.c o.n o.r o.m R)) := Lib.hid ⟨sM.sel (fun i => i) (fun i j _ _ e => e) (fun i q hi => by
          match i, hi with
          | 0, hi => exact hi
          | 1, hi => exact hi
          | i + 2, hi => simp at hi), cM, keep_rel HL.out.rel (s_good (k := 0) HD.out.1 rfl) _ _ _ _, by
          have h1 := HL.out.len
          have h2 := keepT_len o.c o.n o.r o.m T
          have h3 := keepR_len o.c o.n o.r o.m R
          omega⟩
        clear sS cS bS sT cT bT sM bM
        go_wp2
        go_roundw
        case rel => exact ⟨k + 1, by omega, by go_num, Lib.hid ⟨_, _, HE.out⟩⟩
        case measure => simp [intOf]; omega
      · obtain rfl : k = n := by omega
        have HSm := Lib.hid (same17_any (i := 0) (j := 1) HL.out.sep rfl rfl HL.out.rel ⟨by have := HL.out.len; omega, by have := HL.out.len; omega⟩ A k c w.heap.size l (HS17.out wr HL.out.below) HL.out.below.size HN0.out)
        clear Hact
        go_wp2_with fail
        refine HSm.out.mono ?_
        rintro e w9 ⟨rfl, -, b9⟩
        have HE := Lib.hid (HL.out.below.trans (b9.mono HL.out.below.size))
        clear b9
        go_wp2
        go_ret
        exact ⟨rfl, HE.out⟩

namespace lawOncePlays
open Go.ChangeShapes Go.WideShapes Go.ChangeAt

theorem own : ownKnob Try.prog.godebug = none := by kernel_rfl
theorem kids : Kids Try.prog (· < Try.prog.types.size) := kids_rows (by kernel_rfl) (by kernel_rfl)
theorem full : ∀ t e, t < Try.prog.types.size → Try.prog.underlying t = some (.slice e) → 0 < Try.prog.cellsOf e := slices_full_of Try.prog (by kernel_rfl)

set_option maxRecDepth 100000 in
theorem lifted (os : Os) (started : os.Started) (H : Type) (enc : TypeId × Value → H) :
    ReturnsInHanded {} Try.checked os 9 .any (Rows.oncePlaysSpec.pre6 enc Try.prog Try.f9 Rows.oncePlaysRow.domain false) (Rows.oncePlaysSpec.post enc Try.prog Try.f9 false true false false) := by
  refine returnsInHanded_of_change (C := Try.checked) own started (by kernel_rfl) Try.func9
    (ChangeSpec.witness6 (enc := enc) (C := Try.checked) false ⟨#[], #[.slice none 0 0], []⟩ 8 (by kernel_rfl) (by kernel_rfl) (by kernel_rfl) (by kernel_rfl)) ?_
  intro W base args ds gs before hval0 hW _ _
  have hval : ∀ (j : Nat) t v, Try.f9.params[j]? = some t → args[j]? = some v → Value.okWide Try.prog W .any base t v := hval0
  have hW' := hW
  obtain ⟨p, q, hA0, hV, rfl, _, _⟩ := hW
  obtain ⟨rfl, rfl⟩ := trodVars_none hV
  have hA : DataW.TrodAll enc Try.prog W 0 (fun _ => true) true Try.f9.params.toList args.toList ds p := hA0
  rw [Try.params9] at hA hval
  obtain ⟨v0, vs0, d0, ds0, p0, q0, hargs, rfl, rfl, h0, r0⟩ := trodAll_cons hA
  obtain ⟨rfl, rfl, rfl⟩ := trodAll_nil r0
  obtain rfl : args = #[v0] := by cases args; simp_all
  have hlt := hW'.lt
  obtain ⟨A0, n0, c0, l0, rfl, hnc0, hm0, ha0⟩ := open_oas (hval 0 70 v0 rfl rfl) h0 (fun x hx => hlt x (by simp [hx]))
  refine (plays_walk A0 n0 c0 l0 W ha0 (Nat.le_trans hnc0 hm0)).mono fun e W' ⟨he, hbel⟩ => ?_
  subst he
  exact ⟨_, rfl, law_post kids full (of_decide_eq_true (by kernel_rfl)) Try.underlying4 rfl rfl rfl hW' hbel⟩

theorem proved : Rows.OncePlaysSaid :=
  OpenClaim.holds_of_wide 9 Try.f9 rfl rfl rfl rfl rfl rfl rfl ⟨rfl, rfl, rfl, rfl, rfl⟩ rfl rfl rfl rfl rfl (by kernel_rfl) Try.func9 (by kernel_rfl)
    (of_decide_eq_true (by kernel_rfl)) (by unfold Func.isWrapper; first | (rw [if_pos (by decide +kernel)]; kernel_rfl) | (rw [if_neg (by decide +kernel)]; exact ⟨rfl, rfl⟩))
    (fun os started H enc _ => lifted os started H enc)
end lawOncePlays

end Go.Proofs.Ytdfhnjocpfjagaa

/- OnceNever: a request that was answered is never new again. No condition. -/
import Derived.Test.YtdfhnjocpfjagaaOnK
import Derived.Test.YtdfhnjocpfjagaaOnH
import Derived.Test.YtdfhnjocpfjagaaSpecOnd
import Derived.Test.YtdfhnjocpfjagaaSepB
import Derived.Deep.DeepCutAuto
import Derived.Deep.CutBlock
import Derived.Test.YtdfhnjocpfjagaaRow
namespace Go.Proofs.Ytdfhnjocpfjagaa
open Go.RowKit

theorem bits_two (z : Int) : ∃ q : Nat, q < 2 ∧ bits BinOp.and IntKind.i64 z 1 = (q : Int) := by
  refine ⟨(BitVec.ofInt 64 z &&& BitVec.ofInt 64 1).toNat, ?_, ?_⟩
  · rw [BitVec.toNat_and, show (BitVec.ofInt 64 1).toNat = 1 from by decide +kernel, Nat.and_one_is_mod]
    omega
  · have h2 : (BitVec.ofInt 64 z &&& BitVec.ofInt 64 1).toNat < 2 := by
      rw [BitVec.toNat_and, show (BitVec.ofInt 64 1).toNat = 1 from by decide +kernel, Nat.and_one_is_mod]
      omega
    show IntKind.i64.wrap ((BitVec.ofInt 64 z &&& BitVec.ofInt 64 1).toNat : Int) = _
    exact IntWalk.i64_in _ (by omega)
/-- what was kept is never new again, in one of both tables -/
def Kept2 (T0 T1 : Tb) (K : List ActO) : Prop := ∀ o ∈ K, (¬ badT o.c o.n ∧ (kn o.n (getT o.c T0) ∨ kn o.n (getT o.c T1))) ∧ (Lit.int .i64 o.c).wf = true ∧ (Lit.int .i64 o.n).wf = true
abbrev arr (s0 s1 : Nat) : Array Value := #[.pointer (some ⟨s0, 0, none⟩), .pointer (some ⟨s1, 0, none⟩)]
/-- the loop: both tables, the array of both, what was kept -/
structure NvR (w wr : World) (k g : Nat) (s0 s1 : Nat) (T0 T1 : Tb) (v : Value) (K : List ActO) : Prop where
  sep : SepO w.heap.size wr [.tab s0 T0, .tab s1 T1, .box g 90 #[.pointer (some ⟨s0, 0, none⟩), .pointer (some ⟨s1, 0, none⟩)], .acts v K]
  below : Below w.heap.size w wr
  len : T0.length ≤ 101 * k ∧ T1.length ≤ k
  klen : K.length ≤ k
  kept : Kept2 T0 T1 K
section
variable {w wr w' : World} {k g s0 s1 q : Nat} {T0 T1 T : Tb} {v : Value} {K : List ActO}
theorem NvR.good (h : NvR w wr k g s0 s1 T0 T1 v K) : TGood T0 ∧ TGood T1 := ⟨s_good (k := 0) h.sep rfl, s_good (k := 1) h.sep rfl⟩
theorem Kept2.keep0 {c n : Int} {r : Rp} {m : Nat} (h : Kept2 T0 T1 K) (hg : TGood T0) : Kept2 (keepT c n r m T0) T1 K := fun o ho => ⟨⟨(h o ho).1.1, (h o ho).1.2.imp (kn_keep hg) id⟩, (h o ho).2⟩
theorem Kept2.keep1 {c n : Int} {r : Rp} {m : Nat} (h : Kept2 T0 T1 K) (hg : TGood T1) : Kept2 T0 (keepT c n r m T1) K := fun o ho => ⟨⟨(h o ho).1.1, (h o ho).1.2.imp id (kn_keep hg)⟩, (h o ho).2⟩
theorem Kept2.join (h : Kept2 T0 T1 K) (h0 : TGood T0) (h1 : TGood T1) : Kept2 (joinT T0 T1) T1 K := fun o ho => ⟨⟨(h o ho).1.1, .inl (kn_joinT h0 h1 (h o ho).1.2)⟩, (h o ho).2⟩
end
theorem set5 {B g : Nat} {w0 w1 : World} {x0 x1 x2 x3 x4 : Value} (h : Below B w0 w1) (hg : B ≤ g) : Below B w0 (((((w1.setCell ⟨g, 0, none⟩ (x0)).setCell ⟨g, 1, none⟩ (x1)).setCell ⟨g, 2, none⟩ (x2)).setCell ⟨g, 3, none⟩ (x3)).setCell ⟨g, 4, none⟩ (x4)) := ((((h.setCell hg _).setCell hg _).setCell hg _).setCell hg _).setCell hg _
set_option maxRecDepth 100000 in
set_option maxHeartbeats 12800000 in
theorem never_walk (A : Option Addr) (n c : Nat) (l : List ActO) (w : World) (h : HasOas w w.heap.size A n l) (hn : n ≤ maxLen) :
    Calls Try.prog 11 #[.slice A n c] w fun e w' => e = .returned (.bool true) ∧ Below w.heap.size w w' := by
  have H := Lib.hid h
  have hl := h.1
  have HLi := Lib.hid (fun wx (hb : Below w.heap.size w wx) => light17_any A n c w.heap.size l wx (h.belowOf hb (Nat.le_refl _)) hb.size hn)
  have Hact : Hid (∀ (k : Nat), k < n → ∃ a o, A = some a ∧ l[k]? = some o ∧ ActOk w w.heap.size o ∧ ∀ wx, Below w.heap.size w wx → (wx.cell? (a.add (k * 8)) = some (.int .i64 o.who) ∧ wx.cell? ⟨(a.add (k * 8)).block, (a.add (k * 8)).off + 1, none⟩ = some (.int .i64 o.c) ∧ wx.cell? ⟨(a.add (k * 8)).block, (a.add (k * 8)).off + 2, none⟩ = some (.int .i64 o.n) ∧ wx.cell? ⟨(a.add (k * 8)).block, (a.add (k * 8)).off + 3, none⟩ = some (.int .i64 o.r.code) ∧ wx.cell? ⟨(a.add (k * 8)).block, (a.add (k * 8)).off + 3 + 1, none⟩ = some (.bool o.r.there) ∧ wx.cell? ⟨(a.add (k * 8)).block, (a.add (k * 8)).off + 3 + 2, none⟩ = some (.slice o.A o.rn o.d) ∧ wx.cell? ⟨(a.add (k * 8)).block, (a.add (k * 8)).off + 3 + 3, none⟩ = some (.slice o.X o.m o.y) ∧ wx.cell? ⟨(a.add (k * 8)).block, (a.add (k * 8)).off + 3 + 4, none⟩ = some (.int .i64 o.r.id))) := Lib.hid fun k hk => by
    obtain ⟨a, o, e, hab, ho, ⟨c0, c1, c2, c3, c4, c5, c6, c7⟩, hok⟩ := h.at_ hk
    have kk : ∀ wx, Below w.heap.size w wx → ∀ p : Addr, p.block = a.block → wx.cell? p = w.cell? p := fun wx hx p hp => hx.cell (by omega)
    exact ⟨a, o, e, ho, hok, fun wx hx => ⟨(kk wx hx _ (addr_block _ _)).trans c0, (kk wx hx _ (by simp [addr_block])).trans c1, (kk wx hx _ (by simp [addr_block])).trans c2, (kk wx hx _ (by simp [addr_block])).trans c3, (kk wx hx _ (by simp [addr_block])).trans c4, (kk wx hx _ (by simp [addr_block])).trans c5, (kk wx hx _ (by simp [addr_block])).trans c6, (kk wx hx _ (by simp [addr_block])).trans c7⟩⟩
  unfold maxLen at hn
  clear h
  go_enter Try.func11, Try.ntmps11
  go_wp2_with fail
  refine (awake17_any _).mono ?_
  rintro e w1 ⟨rfl, b1⟩
  have B1 := Lib.hid b1
  clear b1
  go_wp2_with fail
  refine (HLi.out w1 B1.out).mono ?_
  rintro e w2 ⟨t, rfl, ht, b2⟩
  have B2 := Lib.hid (B1.out.trans (b2.mono B1.out.size))
  have Ht := Lib.hid ht
  clear ht b2
  cases t with
  | false =>
    go_wp2
    go_ret
    exact ⟨rfl, B2.out⟩
  | true =>
    have hn100 : n < 100 := Ht.out rfl
    clear Ht
    obtain ⟨hn1, hn2⟩ : n < 100 ∧ n ≤ 100 := ⟨hn100, by omega⟩
    have Hn1 := Lib.hid (s_new (Sep.nil : SepO w.heap.size w2 []) B2.out.size)
    go_wp2_with fail
    refine Hn1.out.mono ?_
    rintro e w3 ⟨s0, rfl, S3, b3⟩
    have HS3 := Lib.hid S3
    have B3 := Lib.hid (B2.out.trans (b3.mono B2.out.size))
    clear S3 b3
    go_wp2_with fail
    refine (s_new HS3.out B3.out.size).mono ?_
    rintro e w4 ⟨s1, rfl, S4, b4⟩
    have B4 := Lib.hid (B3.out.trans (b4.mono B3.out.size))
    have HS4 := Lib.hid S4
    clear S4 b4
    obtain ⟨g, hg⟩ : ∃ g, w4.heap.size = g := ⟨_, rfl⟩
    obtain ⟨w5, hw5⟩ : ∃ w5, w4.alloc (.cells #[.pointer none, .pointer none] 90) = w5 := ⟨_, rfl⟩
    have x5 : Box w5 g 90 #[.pointer none, .pointer none] := hg ▸ hw5 ▸ Box.made _ _ _
    have u5 : Below w4.heap.size w4 w5 := hw5 ▸ below_box _
    obtain ⟨w6, hw6⟩ : ∃ w6, ((w5.setCell ⟨g, 0, none⟩ (.pointer (some ⟨s0, 0, none⟩))).setCell ⟨g, 1, none⟩ (.pointer (some ⟨s1, 0, none⟩))) = w6 := ⟨_, rfl⟩
    obtain ⟨x6, g6, -⟩ := store2 x5 hw6
    have u6 : Below w4.heap.size w4 w6 := u5.grown g6 u5.size (fun g' hg' => by injection hg' with hg'; omega)
    have d0 : w5.cell? ⟨g, 0, none⟩ = some (.pointer none) := x5.cell 0
    have d1 : w5.cell? ⟨g, 1, none⟩ = some (.pointer none) := x5.cell 1
    have f0 : w5.frozen? ⟨g, 0, none⟩ = false := x5.frozen 0
    have f1 : w5.frozen? ⟨g, 1, none⟩ = false := x5.frozen 1
    have H6 : Hid (NvR w w6 0 g s0 s1 [] [] (.slice none 0 0) []) := Lib.hid ⟨s_acts0 (s_box HS4.out B4.out.size u6 x6 (by omega)) (B4.out.trans (u6.mono B4.out.size)).size, B4.out.trans (u6.mono B4.out.size), ⟨by simp, by simp⟩, by simp, fun o ho => by simp at ho⟩
    clear x5 u5 x6 g6 u6
    go_wp2
    clear d0 d1 f0 f1 hw5 hw6 hg
    go_loopw [4, 5] (fun v iv wr => ∃ k : Nat, k ≤ n ∧ iv = .int .i64 (k : Int) ∧ ∃ s0 s1 T0 T1 K A4 c4, v = .slice A4 K.length c4 ∧ Hid (NvR w wr k g s0 s1 T0 T1 (.slice A4 K.length c4) K)) (fun _ iv _ => n - (intOf iv).toNat)
    case atStart => exact ⟨0, by omega, rfl, _, _, _, _, [], none, 0, rfl, H6⟩
    case round =>
      obtain ⟨k, hk, rfl, s0, s1, T0, T1, K, A4, c4, rfl, HL⟩ := hrel
      obtain ⟨N, hN⟩ : ∃ N, K.length = N := ⟨_, rfl⟩
      rw [hN] at HL ⊢
      have HN := Lib.hid hN
      clear hN
      clear HLi Hn1 HS3 HS4 H6
      by_cases hlt : k < n
      · obtain ⟨a, o, rfl, ho, hok, hX⟩ := Hact.out k hlt
        have HX := Lib.hid hX
        have Hok := Lib.hid hok
        have hk0 : (0 : Int) ≤ (k : Int) := by omega
        have hk1 : (k : Int) < (n : Int) := by omega
        have HK : Hid (∀ wx Tx sx (j : Nat) (lx : List Ob), SepO w.heap.size wx lx → Below w.heap.size w wx → lx[j]? = some (.tab sx Tx) → Tx.length ≤ 100000 → Calls Try.prog 53 #[.pointer (some ⟨sx, 0, none⟩), .int .i64 o.c, .int .i64 o.n, .agg #[.int .i64 o.r.code, .bool o.r.there, .slice o.A o.rn o.d, .slice o.X o.m o.y, .int .i64 o.r.id]] wx fun e w' =>
            e = .returned (.int .i64 (keepE o.c o.n o.r o.m Tx)) ∧ SepO w.heap.size w' (lx.set j (.tab sx (keepT o.c o.n o.r o.m Tx))) ∧ Below w.heap.size wx w') := Lib.hid fun wx Tx sx j lx hs hb hj hT =>
          s_keep hs hb.size hj hT o.c o.n hok.cw hok.nw o.r o.A o.rn o.d o.m o.X o.y w.heap.size (hok.rp.vals.belowOf hb (Nat.le_refl _)) hok.rp.len hb.size hok.rp.num
        obtain ⟨q, hq2, hq⟩ := bits_two o.who
        clear hX hok ho
        have HD := Lib.hid (And.intro (s_below HL.out.sep (Below.refl _ wr).drew) (HL.out.below.trans ((Below.refl _ wr).drew.mono HL.out.below.size)))
        have hx0 := s_bx (k := 2) HD.out.1 rfl
        have HB0 : Hid ((wr.drew.cell? ⟨g, 0, none⟩ = some (.pointer (some ⟨s0, 0, none⟩)) ∧ wr.drew.cell? ⟨g, 1, none⟩ = some (.pointer (some ⟨s1, 0, none⟩)))) := Lib.hid ⟨hx0.cell 0, hx0.cell 1⟩
        clear hx0
        -- the call of Keep, in either table
        obtain ⟨sq, Tq, T0', T1', hTq, HF⟩ : ∃ (sq : Nat) (Tq T0' T1' : Tb), Tq.length ≤ 100000 ∧ Hid ((([.tab s0 T0, .tab s1 T1, .box g 90 #[.pointer (some ⟨s0, 0, none⟩), .pointer (some ⟨s1, 0, none⟩)], .acts (.slice A4 N c4) K] : List Ob)[q]? = some (.tab sq Tq)) ∧ (([.tab s0 T0, .tab s1 T1, .box g 90 #[.pointer (some ⟨s0, 0, none⟩), .pointer (some ⟨s1, 0, none⟩)], .acts (.slice A4 N c4) K] : List Ob).set q (.tab sq (keepT o.c o.n o.r o.m Tq)) = [.tab s0 T0', .tab s1 T1', .box g 90 #[.pointer (some ⟨s0, 0, none⟩), .pointer (some ⟨s1, 0, none⟩)], .acts (.slice A4 N c4) K]) ∧
            (∀ wx : World, wx.cell? ⟨g, 0, none⟩ = some (.pointer (some ⟨s0, 0, none⟩)) ∧ wx.cell? ⟨g, 1, none⟩ = some (.pointer (some ⟨s1, 0, none⟩)) → wx.cell? ⟨g, q, none⟩ = some (.pointer (some ⟨sq, 0, none⟩))) ∧ (T0'.length ≤ 101 * k + 1 ∧ T1'.length ≤ k + 1) ∧ Kept2 T0' T1' K ∧ (keepE o.c o.n o.r o.m Tq = 0 → Kept2 T0' T1' (K ++ [o]))) := by
          have hlen := HL.out.len
          obtain ⟨g0, g1⟩ := HL.out.good
          rcases (by omega : q = 0 ∨ q = 1) with rfl | rfl
          · have hK := HL.out.kept.keep0 (c := o.c) (n := o.n) (r := o.r) (m := o.m) g0
            refine ⟨s0, T0, keepT o.c o.n o.r o.m T0, T1, by omega, Lib.hid ⟨rfl, rfl, fun wx h => h.1, ⟨Nat.le_trans (keepT_len _ _ _ _ _) (by omega), by omega⟩, hK, fun he x hx => ?_⟩⟩
            rcases List.mem_append.1 hx with hx | hx
            · exact hK x hx
            · simp at hx; subst hx; exact ⟨⟨keep_notBad he, .inl (kn_new g0 he)⟩, Hok.out.cw, Hok.out.nw⟩
          · have hK := HL.out.kept.keep1 (c := o.c) (n := o.n) (r := o.r) (m := o.m) g1
            refine ⟨s1, T1, T0, keepT o.c o.n o.r o.m T1, by omega, Lib.hid ⟨rfl, rfl, fun wx h => h.2, ⟨by omega, Nat.le_trans (keepT_len _ _ _ _ _) (by omega)⟩, hK, fun he x hx => ?_⟩⟩
            rcases List.mem_append.1 hx with hx | hx
            · exact hK x hx
            · simp at hx; subst hx; exact ⟨⟨keep_notBad he, .inr (kn_new g1 he)⟩, Hok.out.cw, Hok.out.nw⟩
        have hq0 : (0 : Int) ≤ (q : Int) := by omega
        have hq1 : (q : Int) < 2 := by omega
        have HKq := Lib.hid (HK.out _ Tq sq q _ HD.out.1 HD.out.2 HF.out.1 hTq)
        rw [HF.out.2.1] at HKq
        obtain ⟨z, hz⟩ : ∃ z, keepE o.c o.n o.r o.m Tq = z := ⟨_, rfl⟩
        rw [hz] at HKq HF
        clear hz
        go_wp2
        go_region_held3 (fun wx => (wx.cell? (a.add (k * 8)) = some (.int .i64 o.who) ∧ wx.cell? ⟨(a.add (k * 8)).block, (a.add (k * 8)).off + 1, none⟩ = some (.int .i64 o.c) ∧ wx.cell? ⟨(a.add (k * 8)).block, (a.add (k * 8)).off + 2, none⟩ = some (.int .i64 o.n) ∧ wx.cell? ⟨(a.add (k * 8)).block, (a.add (k * 8)).off + 3, none⟩ = some (.int .i64 o.r.code) ∧ wx.cell? ⟨(a.add (k * 8)).block, (a.add (k * 8)).off + 3 + 1, none⟩ = some (.bool o.r.there) ∧ wx.cell? ⟨(a.add (k * 8)).block, (a.add (k * 8)).off + 3 + 2, none⟩ = some (.slice o.A o.rn o.d) ∧ wx.cell? ⟨(a.add (k * 8)).block, (a.add (k * 8)).off + 3 + 3, none⟩ = some (.slice o.X o.m o.y) ∧ wx.cell? ⟨(a.add (k * 8)).block, (a.add (k * 8)).off + 3 + 4, none⟩ = some (.int .i64 o.r.id)) ∧ wx.cell? ⟨g, q, none⟩ = some (.pointer (some ⟨sq, 0, none⟩)))
          (first | exact ⟨HX.out _ HD.out.2, HF.out.2.2.1 _ HB0.out⟩ | exact ⟨HX.out _ cR, HF.out.2.2.1 _ xR⟩)
          (first
            | (go_at_call 53; refine HKq.out.mono ?_; rintro e wR ⟨rfl, sR, bR⟩; have cR : Below w.heap.size w wR := HD.out.2.trans bR; have xB := s_bx (k := 2) sR rfl; have xR : wR.cell? ⟨g, 0, none⟩ = some (.pointer (some ⟨s0, 0, none⟩)) ∧ wR.cell? ⟨g, 1, none⟩ = some (.pointer (some ⟨s1, 0, none⟩)) := ⟨xB.cell 0, xB.cell 1⟩))
        have HR := Lib.hid (And.intro sR cR)
        clear sR cR xB xR bR HKq HK HD HB0
        go_upto_if 48 with fail
        go_cut [4] (fun v wx => ∃ (K5 : List ActO) (A5 : Option Addr) (N5 c5 : Nat), v = .slice A5 N5 c5 ∧ Hid (SepO w.heap.size wx [.tab s0 T0', .tab s1 T1', .box g 90 #[.pointer (some ⟨s0, 0, none⟩), .pointer (some ⟨s1, 0, none⟩)], .acts (.slice A5 N5 c5) K5] ∧ Below w.heap.size w wx ∧ (K5.length = N5 ∧ N5 ≤ k + 1) ∧ Kept2 T0' T1' K5))
        case first =>
          by_cases hz : z = 0
          · subst hz
            obtain ⟨x0, x1, x2, x3, x4, x5, x6, x7⟩ := HX.out _ HR.out.2
            have HOw := Lib.hid (s_acts (k := 3) HR.out.1 rfl)
            have hNk : N ≤ k := by have := HL.out.klen; have := HN.out; omega
            obtain ⟨wL, hwL⟩ : ∃ wL, wR.alloc (.cells #[.int .i64 o.who, .int .i64 o.c, .int .i64 o.n, .int .i64 o.r.code, .bool o.r.there, .slice o.A o.rn o.d, .slice o.X o.m o.y, .int .i64 o.r.id] 84) = wL := ⟨_, rfl⟩
            have HLit : Hid (Has wL (wR.heap.size + 1) (some ⟨wR.heap.size, 0, none⟩) (1 * 8) (gCells ActO.cells [o])) := Lib.hid (hwL ▸ Has.lit wR #[.int .i64 o.who, .int .i64 o.c, .int .i64 o.n, .int .i64 o.r.code, .bool o.r.there, .slice o.A o.rn o.d, .slice o.X o.m o.y, .int .i64 o.r.id] 84)
            have uL : Below wR.heap.size wR wL := hwL ▸ below_box _
            have HSl := Lib.hid (And.intro (s_below HR.out.1 uL) (HR.out.2.trans (uL.mono HR.out.2.size)))
            have HO2 : Hid (wL.ownsRow 0 84 8 (.slice A4 N c4) N (gCells ActO.cells K)) := Lib.hid (by
              have h1 := HOw.out.below uL
              unfold OwnG at h1
              rw [HN.out] at h1
              exact h1)
            clear uL
            go_wp2_with (at_builtin; go_loud (refine wpList_append_hasN rfl (.tmp 49) (.tmp 54) _ rfl 84 oa_elem (by omega) Try.underlying70 rfl HO2.out rfl HLit.out (gCells_one oa_cells [o]) (by simp only [maxLen]; omega) (by omega) (Nat.zero_le _) ?_; intro v5 w5 o5 g5 z5; obtain ⟨A5, c5, rfl, -, -, -⟩ := own_sliceN o5; have HA5 := Lib.hid (s_app (k := 3) (o := o) HSl.out.1 HSl.out.2.size rfl (by rw [HN.out]; exact o5) g5 z5); clear o5 g5 z5))
            go_meet
            exact ⟨K ++ [o], A5, N + 1, c5, rfl, Lib.hid ⟨HA5.out.1, HSl.out.2.trans HA5.out.2, ⟨by rw [List.length_append, HN.out]; rfl, by omega⟩, HF.out.2.2.2.2.2 (by trivial)⟩⟩
          · have hz0 : (z == 0) = false := by simpa using hz
            clear hz
            go_wp2
            go_meet
            exact ⟨K, A4, N, c4, rfl, Lib.hid ⟨HR.out.1, HR.out.2, ⟨HN.out, by have := HL.out.klen; have := HN.out; omega⟩, HF.out.2.2.2.2.1⟩⟩
        case rest =>
          obtain ⟨K5, A5, N5, c5, rfl, H5⟩ := hcut
          have HF1 := Lib.hid (And.intro HF.out.2.2.2.1 (And.intro (s_good (k := 0) H5.out.1 rfl) (s_good (k := 1) H5.out.1 rfl)))
          have hx5 := s_bx (k := 2) H5.out.1 rfl
          have t0 : wc.cell? ⟨g, 0, none⟩ = some (.pointer (some ⟨s0, 0, none⟩)) := hx5.cell 0
          have t1 : wc.cell? ⟨g, 1, none⟩ = some (.pointer (some ⟨s1, 0, none⟩)) := hx5.cell 1
          have t2 : wc.frozen? ⟨g, 0, none⟩ = false := hx5.frozen 0
          clear hx5 HF HL HX Hok HR
          by_cases h7 : (k : Int) % 7 = 6
          · have h7b : ((k : Int) % 7 == 6) = true := by simpa using h7
            have HJ := Lib.hid (s_join (k := 0) (j := 1) H5.out.1 H5.out.2.1.size rfl rfl (by have := HF1.out.1; omega) (by have := HF1.out.1; omega))
            clear h7
            go_wp2_with fail
            refine HJ.out.mono ?_
            rintro e w7 ⟨sc, rfl, S7, b7⟩
            have x7 := s_bx (k := 2) S7 rfl
            have p7 : w7.cell? ⟨g, 0, none⟩ = some (.pointer (some ⟨s0, 0, none⟩)) := x7.cell 0
            have f7 : w7.frozen? ⟨g, 0, none⟩ = false := x7.frozen 0
            obtain ⟨w8, hw8⟩ : ∃ w8, w7.setCell ⟨g, 0, none⟩ (.pointer (some ⟨sc, 0, none⟩)) = w8 := ⟨_, rfl⟩
            have b7w := H5.out.2.1.trans (b7.mono H5.out.2.1.size)
            obtain ⟨S8, b8⟩ := s_set (k := 2) S7 b7w.size rfl (by decide) 0 (.pointer (some ⟨sc, 0, none⟩))
            rw [hw8] at S8 b8
            have HE : Hid (NvR w w8 (k + 1) g sc s1 (joinT T0' T1') T1' (.slice A5 N5 c5) K5) := Lib.hid ⟨S8.sel (fun i => if i = 0 then 4 else i) (fun i j hi hj e => by simp only [List.length_cons, List.length_nil] at hi hj; revert e; split <;> split <;> omega) (fun i o hi => by
              match i, hi with
              | 0, hi => exact hi
              | 1, hi => exact hi
              | 2, hi => exact hi
              | 3, hi => exact hi
              | i + 4, hi => simp at hi), b7w.trans b8, ⟨Nat.le_trans (joinT_len _ _) (by have := HF1.out.1; omega), HF1.out.1.2⟩, by have := H5.out.2.2.1; omega, H5.out.2.2.2.join HF1.out.2.1 HF1.out.2.2⟩
            have x8 := s_bx (k := 2) HE.out.sep rfl
            have q0 : w8.cell? ⟨g, 0, none⟩ = some (.pointer (some ⟨sc, 0, none⟩)) := x8.cell 0
            have q1 : w8.cell? ⟨g, 1, none⟩ = some (.pointer (some ⟨s1, 0, none⟩)) := x8.cell 1
            clear S7 b7 x7 b7w S8 b8 x8
            go_wp2
            go_roundw
            case rel => exact ⟨k + 1, by omega, by go_num, sc, s1, _, _, K5, A5, c5, by rw [H5.out.2.2.1.1], Lib.hid (by rw [H5.out.2.2.1.1]; exact HE.out)⟩
            case measure => simp [intOf]; omega
          · have h7b : ((k : Int) % 7 == 6) = false := by simpa using h7
            have HE : Hid (NvR w wc (k + 1) g s0 s1 T0' T1' (.slice A5 N5 c5) K5) := Lib.hid ⟨H5.out.1, H5.out.2.1, ⟨by have := HF1.out.1; omega, HF1.out.1.2⟩, by have := H5.out.2.2.1; omega, H5.out.2.2.2⟩
            clear h7
            go_wp2
            go_roundw
            case rel => exact ⟨k + 1, by omega, by go_num, s0, s1, _, _, K5, A5, c5, by rw [H5.out.2.2.1.1], Lib.hid (by rw [H5.out.2.2.1.1]; exact HE.out)⟩
            case measure => simp [intOf]; omega
      · obtain rfl : k = n := by omega
        clear Hact
        have hx5 := s_bx (k := 2) HL.out.sep rfl
        have t0 : wr.cell? ⟨g, 0, none⟩ = some (.pointer (some ⟨s0, 0, none⟩)) := hx5.cell 0
        have t1 : wr.cell? ⟨g, 1, none⟩ = some (.pointer (some ⟨s1, 0, none⟩)) := hx5.cell 1
        have HJ := Lib.hid (s_join (k := 0) (j := 1) HL.out.sep HL.out.below.size rfl rfl (by have := HL.out.len; omega) (by have := HL.out.len; omega))
        have HKj := Lib.hid (HL.out.kept.join HL.out.good.1 HL.out.good.2)
        clear hx5
        go_wp2_with fail
        refine HJ.out.mono ?_
        rintro e w7 ⟨sc, rfl, S7, b7⟩
        have HS7 := Lib.hid (And.intro S7 (HL.out.below.trans (b7.mono HL.out.below.size)))
        have HG7 := Lib.hid (s_good (k := 4) S7 rfl)
        have hOw := s_acts (k := 3) S7 rfl
        have HCells : Hid (∀ j, j < N → ∃ a4 x, A4 = some a4 ∧ K[j]? = some x ∧ ∀ wx, Below w7.heap.size w7 wx → wx.cell? ⟨(a4.add (j * 8)).block, (a4.add (j * 8)).off + 1, none⟩ = some (.int .i64 x.c) ∧ wx.cell? ⟨(a4.add (j * 8)).block, (a4.add (j * 8)).off + 2, none⟩ = some (.int .i64 x.n)) := Lib.hid fun j hj => by
          obtain ⟨A, c, e, -, -, hG⟩ := hOw.slice
          injection e with e1 e2 e3
          subst e1
          obtain ⟨a4, x, rfl, hab, hx, -, hc⟩ := hG.at_ oa_cells (by omega) (i := j) (by rw [HN.out]; exact hj)
          have kk : ∀ wx, Below w7.heap.size w7 wx → ∀ p : Addr, p.block = a4.block → wx.cell? p = w7.cell? p := fun wx hx p hp => hx.cell (by omega)
          exact ⟨a4, x, rfl, hx, fun wx hb => ⟨(kk wx hb _ (by simp [addr_block])).trans (hc 1 _ (by omega) rfl), (kk wx hb _ (by simp [addr_block])).trans (hc 2 _ (by omega) rfl)⟩⟩
        have hNk : N ≤ 100 := by have := HL.out.klen; have := HN.out; omega
        clear S7 b7 hOw t0 t1
        go_wp2
        go_loopw [7] (fun iv wr => ∃ j : Nat, j ≤ N ∧ iv = .int .i64 (j : Int) ∧ Hid (Below w7.heap.size w7 wr)) (fun iv _ => N - (intOf iv).toNat)
        case atStart => exact ⟨0, by omega, rfl, Lib.hid (Below.refl _ _)⟩
        case round =>
          obtain ⟨j, hj, rfl, HJJ⟩ := hrel
          clear HJ
          by_cases hjl : j < N
          · obtain ⟨a4, x, rfl, hx, hC⟩ := HCells.out j hjl
            have HC := Lib.hid hC
            have hj0 : (0 : Int) ≤ (j : Int) := by omega
            have hj1 : (j : Int) < (N : Int) := by omega
            obtain ⟨⟨hkb, hkn⟩, hcw, hnw⟩ := HKj.out x (List.mem_of_getElem? hx)
            have hlk : (lookT x.c x.n (joinT T0 T1)).2 = 0 ∨ (lookT x.c x.n (joinT T0 T1)).2 = 12 := kn_look hkb (hkn.elim id fun h => kn_joinT HL.out.good.1 HL.out.good.2 (.inr h))
            have Hlk := Lib.hid hlk
            have HSj := Lib.hid (s_below HS7.out.1 HJJ.out)
            have HLook := Lib.hid (fun wx (hb : Below w7.heap.size w7 wx) => s_look (k := 4) (s_below HS7.out.1 hb) rfl x.c x.n hcw hnw)
            have HKnown := Lib.hid (fun wx (hb : Below w7.heap.size w7 wx) => s_known (k := 4) (s_below HS7.out.1 hb) rfl x.c hcw)
            have Hfour := Lib.hid ((HG7.out.get x.c).len)
            clear hx hC hkb hkn hcw hnw hlk HCells HKj HN H HSj B1 B2 B3 B4 HL
            obtain ⟨⟨⟨rc0, rt0, rr0, ri0⟩, z⟩, hR⟩ : ∃ R, lookT x.c x.n (joinT T0 T1) = R := ⟨_, rfl⟩
            rw [hR] at HLook Hlk
            simp only at Hlk
            clear hR
            obtain ⟨gr, hgr⟩ : ∃ gr, wr.heap.size = gr := ⟨_, rfl⟩
            have hg7 : w7.heap.size ≤ gr := hgr ▸ HJJ.out.size
            have HD := Lib.hid (HJJ.out.trans ((Below.refl _ wr).drew.mono HJJ.out.size))
            obtain ⟨wA, hwA⟩ : ∃ wA, (wr.alloc (.cells #[.int .i64 0, .bool false, .slice none 0 0, .slice none 0 0, .int .i64 0] 82)).drew = wA := ⟨_, rfl⟩
            have uA : Below wr.heap.size wr wA := hwA ▸ (below_box (w := wr) (.cells #[.int .i64 0, .bool false, .slice none 0 0, .slice none 0 0, .int .i64 0] 82)).drew
            have xA : Box wA gr 82 #[.int .i64 0, .bool false, .slice none 0 0, .slice none 0 0, .int .i64 0] := hgr ▸ hwA ▸ (Box.made _ _ _ : Box (wr.alloc (.cells #[.int .i64 0, .bool false, .slice none 0 0, .slice none 0 0, .int .i64 0] 82)) wr.heap.size 82 #[.int .i64 0, .bool false, .slice none 0 0, .slice none 0 0, .int .i64 0])
            have HDA := Lib.hid (And.intro (HJJ.out.trans (uA.mono HJJ.out.size)) xA)
            clear uA xA
            go_wp2
            go_region_held3 (fun wx => wx.cell? ⟨(a4.add (j * 8)).block, (a4.add (j * 8)).off + 1, none⟩ = some (.int .i64 x.c) ∧ wx.cell? ⟨(a4.add (j * 8)).block, (a4.add (j * 8)).off + 2, none⟩ = some (.int .i64 x.n))
              (first | exact HC.out _ HD.out | exact HC.out _ HDA.out.1 | (rw [hwA]; exact HC.out _ HDA.out.1) | exact HC.out _ cR | exact HC.out _ (cR.alloc cR.size _) | exact HC.out _ (set5 cR hg9) | exact HC.out _ (set5 (cR.alloc cR.size _) hg9))
              (first
                | (go_at_call 50; (try rw [hwA]); refine (HLook.out _ HDA.out.1).mono ?_; rintro e wR ⟨⟨v9, rfl, ⟨A9, c9, rfl, -⟩, bR⟩, sR⟩; have cR : Below w7.heap.size w7 wR := HDA.out.1.trans (bR.mono HDA.out.1.size); have xR := HDA.out.2.below bR HDA.out.2.lt; have hg9 := hg7; have d0 := xR.cell 0; have d1 := xR.cell 1; have d2 := xR.cell 2; have d3 := xR.cell 3; have d4 := xR.cell 4; have f0 := xR.frozen 0; have f1 := xR.frozen 1; have f2 := xR.frozen 2; have f3 := xR.frozen 3; have f4 := xR.frozen 4; simp at d0 d1 d2 d3 d4)
                | (go_at_call 50; refine (HLook.out _ HD.out).mono ?_; rintro e wR ⟨⟨v9, rfl, ⟨A9, c9, rfl, -⟩, bR⟩, sR⟩; have cR : Below w7.heap.size w7 wR := HD.out.trans (bR.mono HD.out.size); have hg9 := cR.size))
            · obtain ⟨W, hW⟩ : ∃ W, wR.alloc (.cells #[.int .i64 rc0, .bool rt0, .slice A9 rr0.length c9, .slice none 0 0, .int .i64 ri0] 82) = W := ⟨_, rfl⟩
              have HW : Hid (Below w7.heap.size w7 W) := Lib.hid (hW ▸ cR.alloc cR.size _)
              obtain ⟨y1, -⟩ := HC.out W HW.out
              rw [hW]
              clear hW cR bR sR HC HD HDA HLook
              have hM4 : ¬ (4 : Int) < ((getT x.c (joinT T0 T1)).E.length : Int) := by have := Hfour.out; omega
              obtain ⟨M4, hM4e⟩ : ∃ M4, (getT x.c (joinT T0 T1)).E.length = M4 := ⟨_, rfl⟩
              rw [hM4e] at hM4 HKnown
              clear hM4e
              rcases Hlk.out with rfl | rfl
              · go_wp2_with fail
                refine (HKnown.out W HW.out).mono ?_
                rintro e wK ⟨vK, rfl, oK, bK, -⟩
                obtain ⟨AK, cK, rfl, -, -, -⟩ := own_sliceN oK
                have HE := Lib.hid (HW.out.trans (bK.mono HW.out.size))
                clear oK bK
                go_wp2
                go_roundw
                case rel => exact ⟨j + 1, by omega, by go_num, HE⟩
                case measure => simp [intOf]; omega
              · go_wp2_with fail
                refine (HKnown.out W HW.out).mono ?_
                rintro e wK ⟨vK, rfl, oK, bK, -⟩
                obtain ⟨AK, cK, rfl, -, -, -⟩ := own_sliceN oK
                have HE := Lib.hid (HW.out.trans (bK.mono HW.out.size))
                clear oK bK
                go_wp2
                go_roundw
                case rel => exact ⟨j + 1, by omega, by go_num, HE⟩
                case measure => simp [intOf]; omega
            · obtain ⟨W, hW⟩ : ∃ W, (((((wR.setCell ⟨gr, 0, none⟩ (.int .i64 rc0)).setCell ⟨gr, 1, none⟩ (.bool rt0)).setCell ⟨gr, 2, none⟩ (.slice A9 rr0.length c9)).setCell ⟨gr, 3, none⟩ (.slice none 0 0)).setCell ⟨gr, 4, none⟩ (.int .i64 ri0)) = W := ⟨_, rfl⟩
              have HW : Hid (Below w7.heap.size w7 W) := Lib.hid (hW ▸ set5 cR hg9)
              obtain ⟨y1, -⟩ := HC.out W HW.out
              rw [hW]
              clear hW cR bR sR HC HD HDA HLook xR d0 d1 d2 d3 d4 f0 f1 f2 f3 f4
              have hM4 : ¬ (4 : Int) < ((getT x.c (joinT T0 T1)).E.length : Int) := by have := Hfour.out; omega
              obtain ⟨M4, hM4e⟩ : ∃ M4, (getT x.c (joinT T0 T1)).E.length = M4 := ⟨_, rfl⟩
              rw [hM4e] at hM4 HKnown
              clear hM4e
              rcases Hlk.out with rfl | rfl
              · go_wp2_with fail
                refine (HKnown.out W HW.out).mono ?_
                rintro e wK ⟨vK, rfl, oK, bK, -⟩
                obtain ⟨AK, cK, rfl, -, -, -⟩ := own_sliceN oK
                have HE := Lib.hid (HW.out.trans (bK.mono HW.out.size))
                clear oK bK
                go_wp2
                go_roundw
                case rel => exact ⟨j + 1, by omega, by go_num, HE⟩
                case measure => simp [intOf]; omega
              · go_wp2_with fail
                refine (HKnown.out W HW.out).mono ?_
                rintro e wK ⟨vK, rfl, oK, bK, -⟩
                obtain ⟨AK, cK, rfl, -, -, -⟩ := own_sliceN oK
                have HE := Lib.hid (HW.out.trans (bK.mono HW.out.size))
                clear oK bK
                go_wp2
                go_roundw
                case rel => exact ⟨j + 1, by omega, by go_num, HE⟩
                case measure => simp [intOf]; omega
          · go_wp2
            go_ret
            exact ⟨rfl, HS7.out.2.trans (HJJ.out.mono HS7.out.2.size)⟩

namespace lawOnceNever
open Go.ChangeShapes Go.WideShapes Go.ChangeAt

theorem own : ownKnob Try.prog.godebug = none := by kernel_rfl
theorem kids : Kids Try.prog (· < Try.prog.types.size) := kids_rows (by kernel_rfl) (by kernel_rfl)
theorem full : ∀ t e, t < Try.prog.types.size → Try.prog.underlying t = some (.slice e) → 0 < Try.prog.cellsOf e := slices_full_of Try.prog (by kernel_rfl)

set_option maxRecDepth 100000 in
theorem lifted (os : Os) (started : os.Started) (H : Type) (enc : TypeId × Value → H) :
    ReturnsInHanded {} Try.checked os 11 .any (Rows.onceNeverSpec.pre6 enc Try.prog Try.f11 Rows.onceNeverRow.domain false) (Rows.onceNeverSpec.post enc Try.prog Try.f11 false true false false) := by
  refine returnsInHanded_of_change (C := Try.checked) own started (by kernel_rfl) Try.func11
    (ChangeSpec.witness6 (enc := enc) (C := Try.checked) false ⟨#[], #[.slice none 0 0], []⟩ 8 (by kernel_rfl) (by kernel_rfl) (by kernel_rfl) (by kernel_rfl)) ?_
  intro W base args ds gs before hval0 hW _ _
  have hval : ∀ (j : Nat) t v, Try.f11.params[j]? = some t → args[j]? = some v → Value.okWide Try.prog W .any base t v := hval0
  have hW' := hW
  obtain ⟨p, q, hA0, hV, rfl, _, _⟩ := hW
  obtain ⟨rfl, rfl⟩ := trodVars_none hV
  have hA : DataW.TrodAll enc Try.prog W 0 (fun _ => true) true Try.f11.params.toList args.toList ds p := hA0
  rw [Try.params11] at hA hval
  obtain ⟨v0, vs0, d0, ds0, p0, q0, hargs, rfl, rfl, h0, r0⟩ := trodAll_cons hA
  obtain ⟨rfl, rfl, rfl⟩ := trodAll_nil r0
  obtain rfl : args = #[v0] := by cases args; simp_all
  have hlt := hW'.lt
  obtain ⟨A0, n0, c0, l0, rfl, hnc0, hm0, ha0⟩ := open_oas (hval 0 70 v0 rfl rfl) h0 (fun x hx => hlt x (by simp [hx]))
  refine (never_walk A0 n0 c0 l0 W ha0 (Nat.le_trans hnc0 hm0)).mono fun e W' ⟨he, hbel⟩ => ?_
  subst he
  exact ⟨_, rfl, law_post kids full (of_decide_eq_true (by kernel_rfl)) Try.underlying4 rfl rfl rfl hW' hbel⟩

theorem proved : Rows.OnceNeverSaid :=
  OpenClaim.holds_of_wide 11 Try.f11 rfl rfl rfl rfl rfl rfl rfl ⟨rfl, rfl, rfl, rfl, rfl⟩ rfl rfl rfl rfl rfl (by kernel_rfl) Try.func11 (by kernel_rfl)
    (of_decide_eq_true (by kernel_rfl)) (by unfold Func.isWrapper; first | (rw [if_pos (by decide +kernel)]; kernel_rfl) | (rw [if_neg (by decide +kernel)]; exact ⟨rfl, rfl⟩))
    (fun os started H enc _ => lifted os started H enc)
end lawOnceNever

end Go.Proofs.Ytdfhnjocpfjagaa

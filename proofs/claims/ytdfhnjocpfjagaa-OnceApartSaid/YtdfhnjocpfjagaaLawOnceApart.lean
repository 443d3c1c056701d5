/- OnceApart: what is remembered of one client hangs on nothing that is kept of others. No condition. -/
import Derived.Test.YtdfhnjocpfjagaaOnI
import Derived.Test.YtdfhnjocpfjagaaOnH
import Derived.Test.YtdfhnjocpfjagaaRow
namespace Go.Proofs.Ytdfhnjocpfjagaa
open Go.RowKit

/-- what is kept of one client leaves what is remembered of others -/
theorem keep_other {c n k : Int} {r : Rp} {m : Nat} {T : Tb} (h : c ≠ k) : getT k (keepT c n r m T) = getT k T := by
  unfold keepT
  split
  · unfold putT
    rw [getT_put, if_neg h]
  · rfl
theorem look_same {c n : Int} {T T' : Tb} (h : getT c T = getT c T') : lookT c n T = lookT c n T' := by unfold lookT; rw [h]
theorem keep_same {c n : Int} {r : Rp} {m : Nat} {T T' : Tb} (h : getT c T = getT c T') : keepE c n r m T = keepE c n r m T' ∧ getT c (keepT c n r m T) = getT c (keepT c n r m T') := by
  have e : keepE c n r m T = keepE c n r m T' := by unfold keepE; rw [look_same h]
  refine ⟨e, ?_⟩
  unfold keepT
  rw [e]
  split
  · unfold putT
    rw [getT_put, getT_put, if_pos rfl, if_pos rfl, h]
  · exact h
theorem keep_same_at {c n k : Int} {r : Rp} {m : Nat} {T T' : Tb} (hc : c = k) (h : getT k T = getT k T') : keepE c n r m T = keepE c n r m T' ∧ getT k (keepT c n r m T) = getT k (keepT c n r m T') := by
  subst hc
  exact keep_same h
theorem look_known {c n : Int} {T : Tb} {r : Rp} (h : TGood T) (hg : getG n (getT c T).E = some r) : lookT c n T = (r, 0) := by
  have hP := h.get c
  have h1 := (hP.num _ (getG_mem hg)).1
  have hc : 0 ≤ c ∧ c ≤ 1099511627776 := by
    unfold getT at hg
    cases hgc : getG c T with
    | none => rw [hgc] at hg; cases hg
    | some p => exact (h.cl _ (getG_mem hgc)).1
  simp only at h1
  have h2 := hP.fl
  unfold lookT
  rw [if_neg (by unfold badT; omega), if_neg (by omega), hg]
set_option maxRecDepth 100000 in
set_option maxHeartbeats 12800000 in
theorem apart_walk (A : Option Addr) (n c : Nat) (l : List ActO) (cl : Int) (w : World) (h : HasOas w w.heap.size A n l) (hn : n ≤ maxLen) (hcl : (Lit.int .i64 cl).wf = true) :
    Calls Try.prog 14 #[.slice A n c, .int .i64 cl] w fun e w' => e = .returned (.bool true) ∧ Below w.heap.size w w' := by
  have H := Lib.hid h
  have hl := h.1
  have HLi := Lib.hid (fun wx (hb : Below w.heap.size w wx) => light17_any A n c w.heap.size l wx (h.belowOf hb (Nat.le_refl _)) hb.size hn)
  have Hact : Hid (∀ (k : Nat), k < n → ∃ a o, A = some a ∧ l[k]? = some o ∧ ActOk w w.heap.size o ∧ ∀ wx, Below w.heap.size w wx → (wx.cell? (a.add (k * 8)) = some (.int .i64 o.who) ∧ wx.cell? ⟨(a.add (k * 8)).block, (a.add (k * 8)).off + 1, none⟩ = some (.int .i64 o.c) ∧ wx.cell? ⟨(a.add (k * 8)).block, (a.add (k * 8)).off + 2, none⟩ = some (.int .i64 o.n) ∧ wx.cell? ⟨(a.add (k * 8)).block, (a.add (k * 8)).off + 3, none⟩ = some (.int .i64 o.r.code) ∧ wx.cell? ⟨(a.add (k * 8)).block, (a.add (k * 8)).off + 3 + 1, none⟩ = some (.bool o.r.there) ∧ wx.cell? ⟨(a.add (k * 8)).block, (a.add (k * 8)).off + 3 + 2, none⟩ = some (.slice o.A o.rn o.d) ∧ wx.cell? ⟨(a.add (k * 8)).block, (a.add (k * 8)).off + 3 + 3, none⟩ = some (.slice o.X o.m o.y) ∧ wx.cell? ⟨(a.add (k * 8)).block, (a.add (k * 8)).off + 3 + 4, none⟩ = some (.int .i64 o.r.id))) := Lib.hid fun k hk => by
    obtain ⟨a, o, e, hab, ho, ⟨c0, c1, c2, c3, c4, c5, c6, c7⟩, hok⟩ := h.at_ hk
    have kk : ∀ wx, Below w.heap.size w wx → ∀ p : Addr, p.block = a.block → wx.cell? p = w.cell? p := fun wx hx p hp => hx.cell (by omega)
    exact ⟨a, o, e, ho, hok, fun wx hx => ⟨(kk wx hx _ (addr_block _ _)).trans c0, (kk wx hx _ (by simp [addr_block])).trans c1, (kk wx hx _ (by simp [addr_block])).trans c2, (kk wx hx _ (by simp [addr_block])).trans c3, (kk wx hx _ (by simp [addr_block])).trans c4, (kk wx hx _ (by simp [addr_block])).trans c5, (kk wx hx _ (by simp [addr_block])).trans c6, (kk wx hx _ (by simp [addr_block])).trans c7⟩⟩
  unfold maxLen at hn
  clear h
  go_enter Try.func14, Try.ntmps14
  go_wp2_with fail
  refine (awake17_any _).mono ?_
  rintro e w1 ⟨rfl, b1⟩
  have B1 := Lib.hid b1
  clear b1
  go_wp2_with fail
  refine (HLi.out w1 B1.out).mono ?_
  rintro e w2 ⟨t, rfl, ht, b2⟩
  have B2 := Lib.hid (B1.out.trans (b2.mono B1.out.size))
  have Ht := Lib.hid ht
  clear ht b2
  cases t with
  | false =>
    go_wp2
    go_ret
    exact ⟨rfl, B2.out⟩
  | true =>
    have hn100 : n < 100 := Ht.out rfl
    clear Ht
    have Hcl := Lib.hid hcl
    clear hcl
    have Hn1 := Lib.hid (s_new (Sep.nil : SepO w.heap.size w2 []) B2.out.size)
    go_wp2_with fail
    refine Hn1.out.mono ?_
    rintro e w3 ⟨sa, rfl, S3, b3⟩
    have HS3 := Lib.hid S3
    have B3 := Lib.hid (B2.out.trans (b3.mono B2.out.size))
    clear S3 b3
    go_wp2_with fail
    refine (s_new HS3.out B3.out.size).mono ?_
    rintro e w4 ⟨sb, rfl, S4, b4⟩
    have H4 : Hid (SepO w.heap.size w4 [.tab sa [], .tab sb []] ∧ Below w.heap.size w w4) := Lib.hid ⟨S4, B3.out.trans (b4.mono B3.out.size)⟩
    clear S4 b4
    go_wp2
    go_loopw [7, 8] (fun iv _ wr => ∃ k : Nat, k ≤ n ∧ iv = .int .i64 (k : Int) ∧ ∃ Ta Tb', Hid (SepO w.heap.size wr [.tab sa Ta, .tab sb Tb'] ∧ Below w.heap.size w wr ∧ (Ta.length ≤ k ∧ Tb'.length ≤ k) ∧ getT cl Ta = getT cl Tb')) (fun iv _ _ => n - (intOf iv).toNat)
    case atStart => exact ⟨0, by omega, rfl, _, _, Lib.hid ⟨H4.out.1, H4.out.2, ⟨Nat.le_refl _, Nat.le_refl _⟩, rfl⟩⟩
    case round =>
      obtain ⟨k, hk, rfl, Ta, Tb', HL⟩ := hrel
      by_cases hlt : k < n
      · obtain ⟨a, o, rfl, ho, hok, hX⟩ := Hact.out k hlt
        have HX := Lib.hid hX
        have Hok := Lib.hid hok
        have hk0 : (0 : Int) ≤ (k : Int) := by omega
        have hk1 : (k : Int) < (n : Int) := by omega
        have HK : Hid (∀ wx Tx sx (j : Nat) (lx : List Ob), SepO w.heap.size wx lx → Below w.heap.size w wx → lx[j]? = some (.tab sx Tx) → Tx.length ≤ k → Calls Try.prog 53 #[.pointer (some ⟨sx, 0, none⟩), .int .i64 o.c, .int .i64 o.n, .agg #[.int .i64 o.r.code, .bool o.r.there, .slice o.A o.rn o.d, .slice o.X o.m o.y, .int .i64 o.r.id]] wx fun e w' =>
            e = .returned (.int .i64 (keepE o.c o.n o.r o.m Tx)) ∧ SepO w.heap.size w' (lx.set j (.tab sx (keepT o.c o.n o.r o.m Tx))) ∧ Below w.heap.size wx w') := Lib.hid fun wx Tx sx j lx hs hb hj hT =>
          s_keep hs hb.size hj (by omega) o.c o.n hok.cw hok.nw o.r o.A o.rn o.d o.m o.X o.y w.heap.size (hok.rp.vals.belowOf hb (Nat.le_refl _)) hok.rp.len hb.size hok.rp.num
        clear hX hok ho
        have HD := Lib.hid (And.intro (s_below HL.out.1 (Below.refl _ wr).drew) (HL.out.2.1.trans ((Below.refl _ wr).drew.mono HL.out.2.1.size)))
        go_wp2
        go_region_held3 (fun wx => (wx.cell? ⟨(a.add (k * 8)).block, (a.add (k * 8)).off + 1, none⟩ = some (.int .i64 o.c) ∧ wx.cell? ⟨(a.add (k * 8)).block, (a.add (k * 8)).off + 2, none⟩ = some (.int .i64 o.n) ∧ wx.cell? ⟨(a.add (k * 8)).block, (a.add (k * 8)).off + 3, none⟩ = some (.int .i64 o.r.code) ∧ wx.cell? ⟨(a.add (k * 8)).block, (a.add (k * 8)).off + 3 + 1, none⟩ = some (.bool o.r.there) ∧ wx.cell? ⟨(a.add (k * 8)).block, (a.add (k * 8)).off + 3 + 2, none⟩ = some (.slice o.A o.rn o.d) ∧ wx.cell? ⟨(a.add (k * 8)).block, (a.add (k * 8)).off + 3 + 3, none⟩ = some (.slice o.X o.m o.y) ∧ wx.cell? ⟨(a.add (k * 8)).block, (a.add (k * 8)).off + 3 + 4, none⟩ = some (.int .i64 o.r.id)))
          (first | exact (HX.out _ HD.out.2).2 | exact (HX.out _ cR).2)
          (first
            | (go_at_call 53; refine (HK.out _ Ta sa 0 _ HD.out.1 HD.out.2 rfl HL.out.2.2.1.1).mono ?_; rintro e wR ⟨rfl, sR, bR⟩; have cR : Below w.heap.size w wR := HD.out.2.trans bR))
        have HR : Hid (SepO w.heap.size wR [.tab sa (keepT o.c o.n o.r o.m Ta), .tab sb Tb'] ∧ Below w.heap.size w wR) := Lib.hid ⟨sR, cR⟩
        clear sR bR cR
        by_cases hc : o.c = cl
        · have hcb : (o.c == cl) = true := by simpa using hc
          have HE2 := Lib.hid (keep_same_at (n := o.n) (r := o.r) (m := o.m) hc HL.out.2.2.2)
          have HDR := Lib.hid (And.intro (s_below HR.out.1 (Below.refl _ wR).drew) (HR.out.2.trans ((Below.refl _ wR).drew.mono HR.out.2.size)))
          obtain ⟨z, hz⟩ : ∃ z, keepE o.c o.n o.r o.m Ta = z := ⟨_, rfl⟩
          have hz2 : keepE o.c o.n o.r o.m Tb' = z := by rw [← HE2.out.1, hz]
          have HKb := Lib.hid (HK.out _ Tb' sb 1 _ HDR.out.1 HDR.out.2 rfl HL.out.2.2.1.2)
          rw [hz2] at HKb
          rw [hz]
          clear hc hz hz2
          go_wp2
          go_region_held3 (fun wx => (wx.cell? ⟨(a.add (k * 8)).block, (a.add (k * 8)).off + 1, none⟩ = some (.int .i64 o.c) ∧ wx.cell? ⟨(a.add (k * 8)).block, (a.add (k * 8)).off + 2, none⟩ = some (.int .i64 o.n) ∧ wx.cell? ⟨(a.add (k * 8)).block, (a.add (k * 8)).off + 3, none⟩ = some (.int .i64 o.r.code) ∧ wx.cell? ⟨(a.add (k * 8)).block, (a.add (k * 8)).off + 3 + 1, none⟩ = some (.bool o.r.there) ∧ wx.cell? ⟨(a.add (k * 8)).block, (a.add (k * 8)).off + 3 + 2, none⟩ = some (.slice o.A o.rn o.d) ∧ wx.cell? ⟨(a.add (k * 8)).block, (a.add (k * 8)).off + 3 + 3, none⟩ = some (.slice o.X o.m o.y) ∧ wx.cell? ⟨(a.add (k * 8)).block, (a.add (k * 8)).off + 3 + 4, none⟩ = some (.int .i64 o.r.id)))
            (first | exact (HX.out _ HDR.out.2).2 | exact (HX.out _ cS).2)
            (first
              | (go_at_call 53; refine HKb.out.mono ?_; rintro e wS ⟨rfl, sS, bS⟩; have cS : Below w.heap.size w wS := HDR.out.2.trans bS))
          have HS : Hid (SepO w.heap.size wS [.tab sa (keepT o.c o.n o.r o.m Ta), .tab sb (keepT o.c o.n o.r o.m Tb')] ∧ Below w.heap.size w wS ∧ ((keepT o.c o.n o.r o.m Ta).length ≤ k + 1 ∧ (keepT o.c o.n o.r o.m Tb').length ≤ k + 1) ∧ getT cl (keepT o.c o.n o.r o.m Ta) = getT cl (keepT o.c o.n o.r o.m Tb')) := Lib.hid
            ⟨sS, cS, ⟨Nat.le_trans (keepT_len _ _ _ _ _) (Nat.succ_le_succ HL.out.2.2.1.1), Nat.le_trans (keepT_len _ _ _ _ _) (Nat.succ_le_succ HL.out.2.2.1.2)⟩, HE2.out.2⟩
          clear sS bS cS
          have hzz : (z != z) = false := by simp
          go_wp2
          go_roundw
          case rel => exact ⟨k + 1, by omega, by go_num, _, _, HS⟩
          case measure => simp [intOf]; omega
        · have hcb : (o.c == cl) = false := by simpa using hc
          have HS : Hid (∀ q, SepO w.heap.size (wR.drewN q) [.tab sa (keepT o.c o.n o.r o.m Ta), .tab sb Tb'] ∧ Below w.heap.size w (wR.drewN q) ∧ ((keepT o.c o.n o.r o.m Ta).length ≤ k + 1 ∧ Tb'.length ≤ k + 1) ∧ getT cl (keepT o.c o.n o.r o.m Ta) = getT cl Tb') := Lib.hid
            fun q => ⟨s_below HR.out.1 (below_drL (Below.refl _ wR) q), HR.out.2.trans ((below_drL (Below.refl _ wR) q).mono HR.out.2.size), ⟨Nat.le_trans (keepT_len _ _ _ _ _) (Nat.succ_le_succ HL.out.2.2.1.1), Nat.le_succ_of_le HL.out.2.2.1.2⟩, by rw [keep_other hc]; exact HL.out.2.2.2⟩
          obtain ⟨-, y1, -⟩ := HX.out _ HR.out.2
          clear hc
          go_wp2
          go_quiet (fail)
          go_wp2
          go_roundw
          case rel => exact ⟨k + 1, by omega, by go_num, _, _, Lib.hid (HS.out _)⟩
          case measure => simp [intOf]; omega
      · obtain rfl : k = n := by omega
        clear Hact
        obtain ⟨P, hP⟩ : ∃ P, getT cl Ta = P := ⟨_, rfl⟩
        have hPb : getT cl Tb' = P := by rw [← HL.out.2.2.2, hP]
        have HP := Lib.hid (And.intro hP hPb)
        have Hfa := Lib.hid (s_floor (k := 0) HL.out.1 rfl cl Hcl.out)
        have Hfb := Lib.hid (s_floor (k := 1) HL.out.1 rfl cl Hcl.out)
        have Hka := Lib.hid (fun wx (hs : SepO w.heap.size wx [.tab sa Ta, .tab sb Tb']) => s_known (k := 0) hs rfl cl Hcl.out)
        have Hkb := Lib.hid (fun wx (hs : SepO w.heap.size wx [.tab sa Ta, .tab sb Tb']) => s_known (k := 1) hs rfl cl Hcl.out)
        rw [hP] at Hfa Hka
        rw [hPb] at Hfb Hkb
        have Hgood := Lib.hid (And.intro (s_good (k := 0) HL.out.1 rfl) (s_good (k := 1) HL.out.1 rfl))
        have Hlen : Hid (P.E.length ≤ 4) := Lib.hid (by have := (Hgood.out.1.get cl).len; rwa [hP] at this)
        obtain ⟨N, hN⟩ : ∃ N, P.E.length = N := ⟨_, rfl⟩
        have HN := Lib.hid hN
        rw [hN] at Hka Hkb Hlen
        have hzz : ∀ z : Int, (z != z) = false := fun z => by simp
        clear hP hPb hN
        go_wp2_with fail
        refine Hfa.out.mono ?_
        rintro e w5 ⟨rfl, rfl⟩
        go_wp2_with fail
        refine Hfb.out.mono ?_
        rintro e w6 ⟨rfl, rfl⟩
        go_wp2_with fail
        refine (Hka.out _ HL.out.1).mono ?_
        rintro e w7 ⟨v7, rfl, o7, b7, S7⟩
        obtain ⟨A7, c7, rfl, -, -, x7⟩ := own_sliceN o7
        have H7 := Lib.hid (And.intro S7 (And.intro (HL.out.2.1.trans (b7.mono HL.out.2.1.size)) x7))
        clear o7 b7 S7 x7
        go_wp2_with fail
        refine (Hkb.out _ H7.out.1).mono ?_
        rintro e w8 ⟨v8, rfl, o8, b8, S8⟩
        obtain ⟨A8, c8, rfl, -, -, x8⟩ := own_sliceN o8
        have Hsi := Lib.hid (sameInts_any A7 A8 N N c7 c8 w7.heap.size w8.heap.size (numsG P.E) (numsG P.E) w8 (by have := H7.out.2.2.belowOf b8 (Nat.le_refl _); rwa [Nat.mul_one] at this) (by rwa [Nat.mul_one] at x8) (by unfold numsG; rw [List.length_map]; exact HN.out) (by unfold numsG; rw [List.length_map]; exact HN.out) (by have := Hlen.out; simp only [maxLen]; omega) (by have := Hlen.out; simp only [maxLen]; omega))
        rw [decide_eq_true rfl] at Hsi
        have H8 := Lib.hid (And.intro S8 (H7.out.2.1.trans (b8.mono H7.out.2.1.size)))
        clear o8 b8 S8 x8
        go_wp2_with fail
        refine Hsi.out.mono ?_
        rintro e w9 ⟨rfl, b9⟩
        have H9 := Lib.hid (And.intro (s_below H8.out.1 b9) (H8.out.2.trans (b9.mono H8.out.2.size)))
        clear b9
        go_wp2_with fail
        refine (Hka.out _ H9.out.1).mono ?_
        rintro e w10 ⟨v10, rfl, o10, b10, S10⟩
        obtain ⟨A10, c10, rfl, -, -, x10⟩ := own_sliceN o10
        have H10 := Lib.hid (And.intro S10 (And.intro (H9.out.2.trans (b10.mono H9.out.2.size)) x10))
        clear o10 b10 S10 x10
        have hN4 : N ≤ 4 := Hlen.out
        go_wp2
        go_loopw [10, 11, 12, 13, 14] (fun iv _ _ _ _ wr => ∃ k : Nat, k ≤ N ∧ iv = .int .i64 (k : Int) ∧ Hid (SepO w.heap.size wr [.tab sa Ta, .tab sb Tb'] ∧ Below w10.heap.size w10 wr)) (fun iv _ _ _ _ _ => N - (intOf iv).toNat)
        case atStart => exact ⟨0, by omega, rfl, Lib.hid ⟨H10.out.1, Below.refl _ _⟩⟩
        case round =>
          obtain ⟨j, hj, rfl, HJ⟩ := hrel
          clear HLi Hn1 HS3 H4 HL Hfa Hfb Hka Hkb H7 Hsi H8 H9
          by_cases hjl : j < N
          · have hj0 : (0 : Int) ≤ (j : Int) := by omega
            have hj1 : (j : Int) < (N : Int) := by omega
            obtain ⟨⟨x, r⟩, hx⟩ : ∃ x, P.E[j]? = some x := ⟨_, List.getElem?_eq_getElem (by have := HN.out; omega)⟩
            obtain ⟨a10, rfl, hab10, hc10⟩ := H10.out.2.2.all (by omega)
            have q10 : wr.cell? (a10.add j) = some (.int .i64 x) := by
              refine (HJ.out.2.cell ?_).trans (hc10 j _ (by rw [List.getElem?_map]; unfold numsG; rw [List.getElem?_map, hx]; rfl))
              rw [addr_block]
              exact hab10
            have hg : getG x P.E = some r := getG_of (by have := (Hgood.out.1.get cl).rise; rwa [HP.out.1] at this) (List.mem_of_getElem? hx)
            have hxb := ((Hgood.out.1.get cl).num (x, r) (by rw [HP.out.1]; exact List.mem_of_getElem? hx)).1
            have hfb := (Hgood.out.1.get cl).fl
            have hwx : (Lit.int .i64 x).wf = true := wf_of (by simp only at hxb; omega)
            have hla : lookT cl x Ta = (r, 0) := look_known Hgood.out.1 (by rw [HP.out.1]; exact hg)
            have hlb : lookT cl x Tb' = (r, 0) := look_known Hgood.out.2 (by rw [HP.out.2]; exact hg)
            have Hrr := Lib.hid (right_small ((Hgood.out.1.get cl).num (x, r) (by rw [HP.out.1]; exact List.mem_of_getElem? hx)).2)
            have Hla := Lib.hid (s_look (k := 0) HJ.out.1 rfl cl x Hcl.out hwx)
            have Hlb := Lib.hid (fun wx (hs : SepO w.heap.size wx [.tab sa Ta, .tab sb Tb']) => s_look (k := 1) hs rfl cl x Hcl.out hwx)
            rw [hla] at Hla
            rw [hlb] at Hlb
            have q10' : ∀ wx, Below wr.heap.size wr wx → wx.cell? (a10.add j) = some (.int .i64 x) := fun wx hb => (hb.cell (by rw [addr_block]; exact Nat.lt_of_lt_of_le hab10 HJ.out.2.size)).trans q10
            have HQ := Lib.hid q10'
            clear hx hg hxb hfb hla hlb hc10 q10'
            go_wp2_with fail
            refine Hla.out.mono ?_
            rintro e w11 ⟨⟨v11, rfl, ⟨A11, c11, rfl, o11⟩, b11⟩, S11⟩
            have H11 := Lib.hid (And.intro S11 (And.intro b11 o11.has.2))
            simp only
            obtain ⟨w12a, hw12a⟩ : ∃ wx, w11.alloc (.cells #[.int .i64 0, .bool false, .slice none 0 0, .slice none 0 0, .int .i64 0] 82) = wx := ⟨_, rfl⟩
            have xw12a : Box w12a w11.heap.size 82 #[.int .i64 0, .bool false, .slice none 0 0, .slice none 0 0, .int .i64 0] := hw12a ▸ Box.made _ _ _
            have uw12a : Below w11.heap.size w11 w12a := hw12a ▸ below_box _
            obtain ⟨w12, hw12⟩ : ∃ wx, (((((w12a.setCell ⟨w11.heap.size, 0, none⟩ (.int .i64 r.code)).setCell ⟨w11.heap.size, 1, none⟩ (.bool r.there)).setCell ⟨w11.heap.size, 2, none⟩ (.slice A11 r.rc.length c11)).setCell ⟨w11.heap.size, 3, none⟩ (.slice none 0 0)).setCell ⟨w11.heap.size, 4, none⟩ (.int .i64 r.id)) = wx := ⟨_, rfl⟩
            obtain ⟨xw12, gw12, sw12⟩ := store5 xw12a hw12
            have uw12 : Below w11.heap.size w11 w12 := uw12a.grown gw12 uw12a.size (fun g hg => by injection hg with hg; omega)
            have da0 : w12a.cell? ⟨w11.heap.size, 0, none⟩ = some (.int .i64 0) := xw12a.cell 0
            have da1 : w12a.cell? ⟨w11.heap.size, 1, none⟩ = some (.bool false) := xw12a.cell 1
            have da2 : w12a.cell? ⟨w11.heap.size, 2, none⟩ = some (.slice none 0 0) := xw12a.cell 2
            have da3 : w12a.cell? ⟨w11.heap.size, 3, none⟩ = some (.slice none 0 0) := xw12a.cell 3
            have da4 : w12a.cell? ⟨w11.heap.size, 4, none⟩ = some (.int .i64 0) := xw12a.cell 4
            have fa0 : w12a.frozen? ⟨w11.heap.size, 0, none⟩ = false := xw12a.frozen 0
            have fa1 : w12a.frozen? ⟨w11.heap.size, 1, none⟩ = false := xw12a.frozen 1
            have fa2 : w12a.frozen? ⟨w11.heap.size, 2, none⟩ = false := xw12a.frozen 2
            have fa3 : w12a.frozen? ⟨w11.heap.size, 3, none⟩ = false := xw12a.frozen 3
            have fa4 : w12a.frozen? ⟨w11.heap.size, 4, none⟩ = false := xw12a.frozen 4
            have H12 := Lib.hid (And.intro (s_below S11 uw12) (And.intro (b11.trans (uw12.mono b11.size)) (And.intro xw12 (o11.has.2.belowOf uw12 (Nat.le_refl _)))))
            have q12 := HQ.out w12 H12.out.2.1
            have Hu12 := Lib.hid uw12
            clear S11 b11 o11 xw12a uw12a xw12 gw12 sw12 uw12
            go_wp2_with fail
            refine (Hlb.out _ H12.out.1).mono ?_
            rintro e w13 ⟨⟨v13, rfl, ⟨A13, c13, rfl, o13⟩, b13⟩, S13⟩
            simp only
            obtain ⟨w14a, hw14a⟩ : ∃ wx, w13.alloc (.cells #[.int .i64 0, .bool false, .slice none 0 0, .slice none 0 0, .int .i64 0] 82) = wx := ⟨_, rfl⟩
            have xw14a : Box w14a w13.heap.size 82 #[.int .i64 0, .bool false, .slice none 0 0, .slice none 0 0, .int .i64 0] := hw14a ▸ Box.made _ _ _
            have uw14a : Below w13.heap.size w13 w14a := hw14a ▸ below_box _
            obtain ⟨w14, hw14⟩ : ∃ wx, (((((w14a.setCell ⟨w13.heap.size, 0, none⟩ (.int .i64 r.code)).setCell ⟨w13.heap.size, 1, none⟩ (.bool r.there)).setCell ⟨w13.heap.size, 2, none⟩ (.slice A13 r.rc.length c13)).setCell ⟨w13.heap.size, 3, none⟩ (.slice none 0 0)).setCell ⟨w13.heap.size, 4, none⟩ (.int .i64 r.id)) = wx := ⟨_, rfl⟩
            obtain ⟨xw14, gw14, sw14⟩ := store5 xw14a hw14
            have uw14 : Below w13.heap.size w13 w14 := uw14a.grown gw14 uw14a.size (fun g hg => by injection hg with hg; omega)
            have db0 : w14a.cell? ⟨w13.heap.size, 0, none⟩ = some (.int .i64 0) := xw14a.cell 0
            have db1 : w14a.cell? ⟨w13.heap.size, 1, none⟩ = some (.bool false) := xw14a.cell 1
            have db2 : w14a.cell? ⟨w13.heap.size, 2, none⟩ = some (.slice none 0 0) := xw14a.cell 2
            have db3 : w14a.cell? ⟨w13.heap.size, 3, none⟩ = some (.slice none 0 0) := xw14a.cell 3
            have db4 : w14a.cell? ⟨w13.heap.size, 4, none⟩ = some (.int .i64 0) := xw14a.cell 4
            have fb0 : w14a.frozen? ⟨w13.heap.size, 0, none⟩ = false := xw14a.frozen 0
            have fb1 : w14a.frozen? ⟨w13.heap.size, 1, none⟩ = false := xw14a.frozen 1
            have fb2 : w14a.frozen? ⟨w13.heap.size, 2, none⟩ = false := xw14a.frozen 2
            have fb3 : w14a.frozen? ⟨w13.heap.size, 3, none⟩ = false := xw14a.frozen 3
            have fb4 : w14a.frozen? ⟨w13.heap.size, 4, none⟩ = false := xw14a.frozen 4
            have x14 := (H12.out.2.2.1.below b13 H12.out.2.2.1.lt).below uw14 (Nat.lt_of_lt_of_le H12.out.2.2.1.lt b13.size)
            have t0 : w14.cell? ⟨w11.heap.size, 0, none⟩ = some (.int .i64 r.code) := x14.cell 0
            have t1 : w14.cell? ⟨w11.heap.size, 1, none⟩ = some (.bool r.there) := x14.cell 1
            have t2 : w14.cell? ⟨w11.heap.size, 2, none⟩ = some (.slice A11 r.rc.length c11) := x14.cell 2
            have t3 : w14.cell? ⟨w11.heap.size, 3, none⟩ = some (.slice none 0 0) := x14.cell 3
            have t4 : w14.cell? ⟨w11.heap.size, 4, none⟩ = some (.int .i64 r.id) := x14.cell 4
            have s0 : w14.cell? ⟨w13.heap.size, 0, none⟩ = some (.int .i64 r.code) := xw14.cell 0
            have s1 : w14.cell? ⟨w13.heap.size, 1, none⟩ = some (.bool r.there) := xw14.cell 1
            have s2 : w14.cell? ⟨w13.heap.size, 2, none⟩ = some (.slice A13 r.rc.length c13) := xw14.cell 2
            have s3 : w14.cell? ⟨w13.heap.size, 3, none⟩ = some (.slice none 0 0) := xw14.cell 3
            have s4 : w14.cell? ⟨w13.heap.size, 4, none⟩ = some (.int .i64 r.id) := xw14.cell 4
            have u14 := b13.trans (uw14.mono b13.size)
            have H14 := Lib.hid (And.intro (s_below S13 uw14) (H12.out.2.1.trans (u14.mono H12.out.2.1.size)))
            have Hsr := Lib.hid (sameReply17_any r r A11 A13 none none r.rc.length r.rc.length c11 c13 0 0 w11.heap.size w13.heap.size w14 (H11.out.2.2.belowOf (Hu12.out.trans (u14.mono Hu12.out.size)) (Nat.le_refl _)) (o13.has.2.belowOf uw14 (Nat.le_refl _)) (by have := x14.lt; omega) (by have := xw14.lt; omega) (by have := Hrr.out.1; simp only [maxLen]; omega) (by have := Hrr.out.1; simp only [maxLen]; omega))
            rw [decide_eq_true rfl] at Hsr
            clear S13 b13 o13 xw14a uw14a xw14 gw14 sw14 uw14 x14 u14
            go_wp2_with fail
            refine Hsr.out.mono ?_
            rintro e w15 ⟨rfl, b15⟩
            have H15 : Hid (SepO w.heap.size w15 [.tab sa Ta, .tab sb Tb'] ∧ Below w10.heap.size w10 w15) := Lib.hid ⟨s_below H14.out.1 b15, HJ.out.2.trans ((H14.out.2.trans (b15.mono H14.out.2.size)).mono HJ.out.2.size)⟩
            clear b15
            go_wp2
            go_roundw
            case rel => exact ⟨j + 1, by omega, by go_num, H15⟩
            case measure => simp [intOf]; omega
          · go_wp2
            go_ret
            exact ⟨rfl, H10.out.2.1.trans (HJ.out.2.mono H10.out.2.1.size)⟩

namespace lawOnceApart
open Go.ChangeShapes Go.WideShapes Go.ChangeAt

theorem own : ownKnob Try.prog.godebug = none := by kernel_rfl
theorem kids : Kids Try.prog (· < Try.prog.types.size) := kids_rows (by kernel_rfl) (by kernel_rfl)
theorem full : ∀ t e, t < Try.prog.types.size → Try.prog.underlying t = some (.slice e) → 0 < Try.prog.cellsOf e := slices_full_of Try.prog (by kernel_rfl)

set_option maxRecDepth 100000 in
theorem lifted (os : Os) (started : os.Started) (H : Type) (enc : TypeId × Value → H) :
    ReturnsInHanded {} Try.checked os 14 .any (Rows.onceApartSpec.pre6 enc Try.prog Try.f14 Rows.onceApartRow.domain false) (Rows.onceApartSpec.post enc Try.prog Try.f14 false true false false) := by
  refine returnsInHanded_of_change (C := Try.checked) own started (by kernel_rfl) Try.func14
    (ChangeSpec.witness6 (enc := enc) (C := Try.checked) false ⟨#[], #[.slice none 0 0, .int .i64 0], []⟩ 8 (by kernel_rfl) (by kernel_rfl) (by kernel_rfl) (by kernel_rfl)) ?_
  intro W base args ds gs before hval0 hW _ _
  have hval : ∀ (j : Nat) t v, Try.f14.params[j]? = some t → args[j]? = some v → Value.okWide Try.prog W .any base t v := hval0
  have hW' := hW
  obtain ⟨p, q, hA0, hV, rfl, _, _⟩ := hW
  obtain ⟨rfl, rfl⟩ := trodVars_none hV
  have hA : DataW.TrodAll enc Try.prog W 0 (fun _ => true) true Try.f14.params.toList args.toList ds p := hA0
  rw [Try.params14] at hA hval
  obtain ⟨v0, vs0, d0, ds0, p0, q0, hargs, rfl, rfl, h0, r0⟩ := trodAll_cons hA
  obtain ⟨v1, vs1, d1, ds1, p1, q1, rfl, rfl, rfl, h1, r1⟩ := trodAll_cons r0
  obtain ⟨rfl, rfl, rfl⟩ := trodAll_nil r1
  obtain rfl : args = #[v0, v1] := by cases args; simp_all
  have hlt := hW'.lt
  obtain ⟨A0, n0, c0, l0, rfl, hnc0, hm0, ha0⟩ := open_oas (hval 0 70 v0 rfl rfl) h0 (fun x hx => hlt x (by simp [hx]))
  obtain ⟨k1, rfl, _, _, wf1⟩ := open_int Try.underlying3 (hval 1 3 v1 rfl rfl) h1
  have bd1 := bounds_i64 wf1
  refine (apart_walk A0 n0 c0 l0 k1 W ha0 (Nat.le_trans hnc0 hm0) (wf_of (by omega))).mono fun e W' ⟨he, hbel⟩ => ?_
  subst he
  exact ⟨_, rfl, law_post kids full (of_decide_eq_true (by kernel_rfl)) Try.underlying4 rfl rfl rfl hW' hbel⟩

theorem proved : Rows.OnceApartSaid :=
  OpenClaim.holds_of_wide 14 Try.f14 rfl rfl rfl rfl rfl rfl rfl ⟨rfl, rfl, rfl, rfl, rfl⟩ rfl rfl rfl rfl rfl (by kernel_rfl) Try.func14 (by kernel_rfl)
    (of_decide_eq_true (by kernel_rfl)) (by unfold Func.isWrapper; first | (rw [if_pos (by decide +kernel)]; kernel_rfl) | (rw [if_neg (by decide +kernel)]; exact ⟨rfl, rfl⟩))
    (fun os started H enc _ => lifted os started H enc)
end lawOnceApart

end Go.Proofs.Ytdfhnjocpfjagaa

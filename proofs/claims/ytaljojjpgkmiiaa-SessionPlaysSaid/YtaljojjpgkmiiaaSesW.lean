/- The walk of SessionPlays: whatever an end is asked, put down and taken up in between, each call answers what the document says. No condition. -/
import Derived.Test.YtaljojjpgkmiiaaSesO
import Derived.Test.YtaljojjpgkmiiaaOpenActsP
import Derived.Deep.RegionHeld3
namespace Go.Proofs.Ytaljojjpgkmiiaa
open Go.RowKit
open Go.Lib (strCells)

set_option maxRecDepth 100000 in
set_option maxHeartbeats 51200000 in
theorem plays15_walk (A : Option Addr) (n c C : Nat) (l : List Plan12) (w : World) (h : HasPlans w C A n l) (hC : C ≤ w.heap.size) : Calls Try.prog 3 #[.slice A n c] w fun e w' => e = .returned (.bool true) ∧ Below w.heap.size w w' := by
  by_cases hbig : 400 < n
  · have g1 : (400 : Int) < (n : Int) := by omega
    clear h hbig
    go_enter Try.func3, Try.ntmps3
    go_wp2_with fail
    refine (awake15_any w).mono ?_
    rintro e w1 ⟨rfl, b1⟩
    have Hb1 := Lib.hid b1
    clear b1
    go_wp2
    go_ret
    exact ⟨rfl, Hb1.out⟩
  · have g1 : ¬ (400 : Int) < (n : Int) := by omega
    have HA := Lib.hid h
    have HC := Lib.hid hC
    clear h hC
    go_enter Try.func3, Try.ntmps3
    go_wp2_with fail
    refine (awake15_any w).mono ?_
    rintro e w1 ⟨rfl, b1⟩
    have Hb1 := Lib.hid b1
    clear b1
    go_wp2_with fail
    refine (sesNew_any w1).mono ?_
    rintro e w2 ⟨g0, rfl, h2, b2⟩
    have H2 : Hid (PStE (w2.alloc (.cells #[.int .i64 0, .int .i64 0, .slice none 0 0] 29)) w1.heap.size g0 (.slice none 0 0) ⟨0, 0, []⟩ w2.heap.size (.slice none 0 0) ⟨0, 0, []⟩ ∧ Short ⟨0, 0, []⟩ ∧ Below w1.heap.size w1 (w2.alloc (.cells #[.int .i64 0, .int .i64 0, .slice none 0 0] 29))) := Lib.hid ⟨⟨h2.below (below_box _), ⟨b2.size, Box.made _ _ _, OwnTx.nil _ _, SE.Good.new⟩, fun i hi => by cases hi⟩, Short.new, b2.alloc b2.size _⟩
    clear h2 b2
    go_wp2
    generalize w2.alloc (.cells #[.int .i64 0, .int .i64 0, .slice none 0 0] 29) = w3 at H2 ⊢
    generalize w2.heap.size = rg at H2 ⊢
    go_loopw [3, 5] (fun e i wr => ∃ (k g : Nat) (v rv : Value) (E : SE), k ≤ n ∧ e = .pointer (some ⟨g, 0, none⟩) ∧ i = .int .i64 (k : Int) ∧ Hid (PStE wr w1.heap.size g v E rg rv E ∧ Short E ∧ Below w1.heap.size w1 wr)) (fun _ i _ => n - (intOf i).toNat)
    case atStart => exact ⟨0, _, _, _, _, Nat.zero_le _, rfl, rfl, H2⟩
    case round =>
      clear H2
      obtain ⟨k, g, v, rv, E, hk, rfl, rfl, HR⟩ := hrel
      by_cases hlt : k < n
      · have hb0 : Below w.heap.size w wr := Hb1.out.trans (HR.out.2.2.mono Hb1.out.size)
        obtain ⟨a, o, rfl, hab, -, c0, c1, c2⟩ := (HA.out.belowOf hb0 HC.out).at_ hlt
        obtain ⟨ok, os, om⟩ := o
        simp only at c0 c1 c2
        obtain ⟨wa, hwa⟩ : ∃ wa, wr.alloc (.cells #[.int .i64 ok, .string os, .int .i64 om] 31) = wa := ⟨_, rfl⟩
        have hba : Below wr.heap.size wr wa := hwa ▸ below_box _
        have hxb : Box wa wr.heap.size 31 #[.int .i64 ok, .string os, .int .i64 om] := hwa ▸ Box.made _ _ _
        have HPa := Lib.hid (HR.out.1.below hba)
        have HS0 := Lib.hid HR.out.2.1
        have HBa := Lib.hid (HR.out.2.2.trans (hba.mono HR.out.2.2.size))
        have Hxb := Lib.hid hxb
        have x0 : wa.cell? ⟨wr.heap.size, 0, none⟩ = some (.int .i64 ok) := hxb.cell 0
        have x1 : wa.cell? ⟨wr.heap.size, 1, none⟩ = some (.string os) := hxb.cell 1
        have x2 : wa.cell? ⟨wr.heap.size, 2, none⟩ = some (.int .i64 om) := hxb.cell 2
        clear hba hxb hb0 HR
        by_cases hl : 200 < os.size
        · have g2 : (200 : Int) < (os.size : Int) := by omega
          clear hl
          go_wp2
          go_ret
          exact ⟨rfl, Hb1.out.trans (HBa.out.mono Hb1.out.size)⟩
        · have g2 : ¬ (200 : Int) < (os.size : Int) := by omega
          by_cases hk1 : ok = 1
          · subst hk1
            as_aux_lemma =>
              obtain ⟨⟨E1, a1, a2⟩, hE⟩ : ∃ r, E.send os = r := ⟨_, rfl⟩
              have HE := Lib.hid hE
              have HSh : Hid (Short E1) := Lib.hid (by have h9 := HS0.out.send (x := os) (by omega); rw [hE] at h9; exact h9)
              clear hE
              go_wp2_with fail
              refine (sesSend_any HPa.out.e HPa.out.lo os).mono ?_
              unfold SendEP
              rw [HE.out]
              rintro e w3 ⟨v3, rfl, h3, k3, n3⟩
              have HP3 := Lib.hid (HPa.out.prog h3 k3 n3.toW)
              have HB3 := Lib.hid (HBa.out.trans (HPa.out.e.kept k3 HPa.out.lo))
              have y1 : w3.cell? ⟨wr.heap.size, 1, none⟩ = some (.string os) := (HPa.out.box k3 Hxb.out (by decide) (by decide)).cell 1
              clear h3 k3 n3 x0 x1 x2
              go_wp2_with fail
              refine (refSend_any HP3.out.r HP3.out.lo os).mono ?_
              unfold RSendP
              rw [HE.out]
              rintro e w4 ⟨rv4, rfl, r4, k4, n4⟩
              have HP4 := Lib.hid (HP3.out.ref r4 k4 n4.toW)
              have HB4 := Lib.hid (HB3.out.trans (HP3.out.r.kept k4 HP3.out.lo))
              clear r4 k4 n4 y1
              obtain ⟨At, ct, rfl, -⟩ := HP4.out.r.own.slice
              have HK : Hid (∀ wx, Below w4.heap.size w4 wx → (wx.cell? ⟨rg, 0, none⟩ = some (.int .i64 E1.m) ∧ wx.cell? ⟨rg, 2, none⟩ = some (.slice At E1.l.length ct)) ∧ Below w4.heap.size w4 wx) := Lib.hid fun wx hx => ⟨⟨(HP4.out.r.below hx).box.cell 0, (HP4.out.r.below hx).box.cell 2⟩, hx⟩
              obtain ⟨⟨z0, z2⟩, -⟩ := HK.out _ (Below.refl _ _)
              go_wp2
              go_region_held3 (fun wx => (wx.cell? ⟨rg, 0, none⟩ = some (.int .i64 E1.m) ∧ wx.cell? ⟨rg, 2, none⟩ = some (.slice At E1.l.length ct)) ∧ Below w4.heap.size w4 wx)
                (first | exact HK.out _ (Below.refl _ _).drew | exact HK.out _ (And.right (by assumption)))
                (first
                  | (go_at_call 29; refine (sesMark_any (HP4.out.e.below (And.right (by assumption)))).mono ?_; rintro e w9 ⟨rfl, rfl⟩)
                  | (go_at_call 30; refine (sesWaiting_any (HP4.out.e.below (And.right (by assumption)))).mono ?_; rintro e w9 ⟨rfl, rfl⟩))
              all_goals
                have HZ := Lib.hid (HP4.out.below (And.right (by assumption)))
                have HZB := Lib.hid (HB4.out.trans ((And.right (by assumption) : Below w4.heap.size w4 _).mono HB4.out.size))
                go_wp2
                go_roundw
                case rel => exact ⟨k + 1, _, _, _, E1, by omega, rfl, by go_num, Lib.hid ⟨HZ.out, HSh.out, HZB.out⟩⟩
                case measure => simp [intOf]; omega
          have e1 : (ok == 1) = false := by simpa using hk1
          by_cases hk2 : ok = 2
          · subst hk2
            as_aux_lemma =>
              have HSh := Lib.hid HS0.out
              go_wp2_with fail
              refine (refPost_any HPa.out.r om).mono ?_
              rintro e w3 ⟨A3, c3, f, rfl, -, ht, hpo, hf, b3⟩
              have HP3 := Lib.hid (HPa.out.below b3)
              have HB3 := Lib.hid (HBa.out.trans (b3.mono HPa.out.lo))
              have y2 : w3.cell? ⟨wr.heap.size, 2, none⟩ = some (.int .i64 om) := (Hxb.out.below b3 Hxb.out.lt).cell 2
              obtain ⟨N, hN⟩ : ∃ N, (E.post om).length = N := ⟨_, rfl⟩
              have hN256 : N ≤ 256 := by rw [← hN, hpo, itemsFrom_len, List.length_take]; have := HP3.out.e.good.ll; omega
              have HN := Lib.hid hN
              have Hpo := Lib.hid hpo
              rw [hN] at ht ⊢
              have Ht := Lib.hid (And.intro ht b3.size)
              have Hf := Lib.hid (And.intro hf hN256)
              clear ht hpo hf b3 hN hN256 x0 x1 x2
              go_wp2_with fail
              refine (sesPost_any HP3.out.e om).mono ?_
              rintro e w4 ⟨v4, rfl, o4, b4⟩
              obtain ⟨A4, c4, rfl, -, -, hi⟩ := o4.slice
              rw [HN.out] at hi ⊢
              rw [Hpo.out] at hi
              have HP4 := Lib.hid (HP3.out.below b4)
              have HB4 := Lib.hid (HB3.out.trans (b4.mono HP3.out.lo))
              have Hi := Lib.hid (And.intro hi (Ht.out.1.belowOf b4 Ht.out.2))
              clear o4 hi b4
              go_wp2_with fail
              refine (same15_any _ _ _ _ _ _ _ _ _ _ Hi.out.1 Hi.out.2 (by have := Hf.out; omega)).mono ?_
              rintro e w5 ⟨rfl, b5⟩
              have HP5 := Lib.hid (HP4.out.below b5)
              have HB5 := Lib.hid (HB4.out.trans (b5.mono HP4.out.lo))
              clear b5 y2
              obtain ⟨At, ct, rfl, -⟩ := HP5.out.r.own.slice
              have HK : Hid (∀ wx, Below w5.heap.size w5 wx → (wx.cell? ⟨rg, 0, none⟩ = some (.int .i64 E.m) ∧ wx.cell? ⟨rg, 2, none⟩ = some (.slice At E.l.length ct)) ∧ Below w5.heap.size w5 wx) := Lib.hid fun wx hx => ⟨⟨(HP5.out.r.below hx).box.cell 0, (HP5.out.r.below hx).box.cell 2⟩, hx⟩
              obtain ⟨⟨z0, z2⟩, -⟩ := HK.out _ (Below.refl _ _)
              go_wp2
              go_region_held3 (fun wx => (wx.cell? ⟨rg, 0, none⟩ = some (.int .i64 E.m) ∧ wx.cell? ⟨rg, 2, none⟩ = some (.slice At E.l.length ct)) ∧ Below w5.heap.size w5 wx)
                (first | exact HK.out _ (Below.refl _ _).drew | exact HK.out _ (And.right (by assumption)))
                (first
                  | (go_at_call 29; refine (sesMark_any (HP5.out.e.below (And.right (by assumption)))).mono ?_; rintro e w9 ⟨rfl, rfl⟩)
                  | (go_at_call 30; refine (sesWaiting_any (HP5.out.e.below (And.right (by assumption)))).mono ?_; rintro e w9 ⟨rfl, rfl⟩))
              all_goals
                have HZ := Lib.hid (HP5.out.below (And.right (by assumption)))
                have HZB := Lib.hid (HB5.out.trans ((And.right (by assumption) : Below w5.heap.size w5 _).mono HB5.out.size))
                go_wp2
                go_roundw
                case rel => exact ⟨k + 1, _, _, _, E, by omega, rfl, by go_num, Lib.hid ⟨HZ.out, HSh.out, HZB.out⟩⟩
                case measure => simp [intOf]; omega
          have e2 : (ok == 2) = false := by simpa using hk2
          by_cases hk3 : ok = 3
          · subst hk3
            as_aux_lemma =>
              obtain ⟨⟨E1, b0⟩, hE⟩ : ∃ r, E.take om = r := ⟨_, rfl⟩
              have HE := Lib.hid hE
              have HSh : Hid (Short E1) := Lib.hid (by have h9 := HS0.out.take om; rw [hE] at h9; exact h9)
              clear hE
              cases b0
              all_goals
                have HPd := Lib.hid (HPa.out.below (Below.refl _ _).drew)
                have HBd := Lib.hid (HBa.out.drew)
                have xd : Box wa.drew wr.heap.size 31 #[.int .i64 3, .string os, .int .i64 om] := Hxb.out.below (Below.refl _ _).drew Hxb.out.lt
                have Hxd := Lib.hid xd
                clear xd
                go_wp2
                go_region_held3 (fun wx => wx.cell? ⟨wr.heap.size, 1, none⟩ = some (.string os) ∧ wx.cell? ⟨wr.heap.size, 2, none⟩ = some (.int .i64 om))
                  (first | exact ⟨Hxd.out.cell 1, Hxd.out.cell 2⟩ | exact ⟨x4.cell 1, x4.cell 2⟩ | exact ⟨x3.cell 1, x3.cell 2⟩)
                  (first
                    | (go_at_call 22; refine (sesTake_any HPd.out.e om os).mono ?_; rw [HE.out]; rintro e w3 ⟨rfl, h3, k3⟩; have HP3 := HPd.out.prog h3 k3 (NewW.refl _ _); have HB3 := HBd.out.trans (HPd.out.e.kept k3 HPd.out.lo); have x3 := HPd.out.box k3 Hxd.out (by decide) (by decide))
                    | (go_at_call 23; refine (refTake_any HP3.r om).mono ?_; rw [HE.out]; rintro e w4 ⟨rfl, r4, k4⟩; have HP4 := Lib.hid (HP3.ref r4 k4 (NewW.refl _ _)); have HB4 := Lib.hid (HB3.trans (HP3.r.kept k4 HP3.lo)); have x4 := HP3.boxR k4 x3 (by decide) (by decide)))
                clear h3 k3 HP3 HB3 x3 r4 k4 x4 x0 x1 x2
                obtain ⟨At, ct, rfl, -⟩ := HP4.out.r.own.slice
                have HK : Hid (∀ wx, Below w4.heap.size w4 wx → (wx.cell? ⟨rg, 0, none⟩ = some (.int .i64 E1.m) ∧ wx.cell? ⟨rg, 2, none⟩ = some (.slice At E1.l.length ct)) ∧ Below w4.heap.size w4 wx) := Lib.hid fun wx hx => ⟨⟨(HP4.out.r.below hx).box.cell 0, (HP4.out.r.below hx).box.cell 2⟩, hx⟩
                obtain ⟨⟨z0, z2⟩, -⟩ := HK.out _ (Below.refl _ _)
                go_wp2
                go_region_held3 (fun wx => (wx.cell? ⟨rg, 0, none⟩ = some (.int .i64 E1.m) ∧ wx.cell? ⟨rg, 2, none⟩ = some (.slice At E1.l.length ct)) ∧ Below w4.heap.size w4 wx)
                  (first | exact HK.out _ (Below.refl _ _).drew | exact HK.out _ (And.right (by assumption)))
                  (first
                    | (go_at_call 29; refine (sesMark_any (HP4.out.e.below (And.right (by assumption)))).mono ?_; rintro e w9 ⟨rfl, rfl⟩)
                    | (go_at_call 30; refine (sesWaiting_any (HP4.out.e.below (And.right (by assumption)))).mono ?_; rintro e w9 ⟨rfl, rfl⟩))
                all_goals
                  have HZ := Lib.hid (HP4.out.below (And.right (by assumption)))
                  have HZB := Lib.hid (HB4.out.trans ((And.right (by assumption) : Below w4.heap.size w4 _).mono HB4.out.size))
                  go_wp2
                  go_roundw
                  case rel => exact ⟨k + 1, _, _, _, E1, by omega, rfl, by go_num, Lib.hid ⟨HZ.out, HSh.out, HZB.out⟩⟩
                  case measure => simp [intOf]; omega
          have e3 : (ok == 3) = false := by simpa using hk3
          by_cases hk4 : ok = 4
          · subst hk4
            as_aux_lemma =>
              obtain ⟨⟨E1, b0⟩, hE⟩ : ∃ r, E.acked om = r := ⟨_, rfl⟩
              have HE := Lib.hid hE
              have HSh : Hid (Short E1) := Lib.hid (by have h9 := HS0.out.acked om; rw [hE] at h9; exact h9)
              clear hE
              have HPd := Lib.hid (HPa.out.below (Below.refl _ _).drew)
              have HBd := Lib.hid (HBa.out.drew)
              have xd : Box wa.drew wr.heap.size 31 #[.int .i64 4, .string os, .int .i64 om] := Hxb.out.below (Below.refl _ _).drew Hxb.out.lt
              have Hxd := Lib.hid xd
              clear xd
              go_wp2
              go_region_held3 (fun wx => wx.cell? ⟨wr.heap.size, 1, none⟩ = some (.string os) ∧ wx.cell? ⟨wr.heap.size, 2, none⟩ = some (.int .i64 om))
                (first | exact ⟨Hxd.out.cell 1, Hxd.out.cell 2⟩ | exact ⟨x4.cell 1, x4.cell 2⟩ | exact ⟨x3.cell 1, x3.cell 2⟩)
                (first
                  | (go_at_call 24; refine (sesAcked_any HPd.out.e om).mono ?_; unfold AckP; rw [HE.out]; rintro e w3 ⟨v3, rfl, h3, k3, n3⟩; have HP3 := HPd.out.prog h3 k3 n3.toW; have HB3 := HBd.out.trans (HPd.out.e.kept k3 HPd.out.lo); have x3 := HPd.out.box k3 Hxd.out (by decide) (by decide))
                  | (go_at_call 25; refine (refAcked_any HP3.r HP3.lo om).mono ?_; unfold RAckP; rw [HE.out]; rintro e w4 ⟨rv4, rfl, r4, k4, n4⟩; have HP4 := Lib.hid (HP3.ref r4 k4 n4); have HB4 := Lib.hid (HB3.trans (HP3.r.kept k4 HP3.lo)); have x4 := HP3.boxR k4 x3 (by decide) (by decide)))
              clear h3 k3 n3 HP3 HB3 x3 r4 k4 n4 x4 x0 x1 x2
              obtain ⟨At, ct, rfl, -⟩ := HP4.out.r.own.slice
              have HK : Hid (∀ wx, Below w4.heap.size w4 wx → (wx.cell? ⟨rg, 0, none⟩ = some (.int .i64 E1.m) ∧ wx.cell? ⟨rg, 2, none⟩ = some (.slice At E1.l.length ct)) ∧ Below w4.heap.size w4 wx) := Lib.hid fun wx hx => ⟨⟨(HP4.out.r.below hx).box.cell 0, (HP4.out.r.below hx).box.cell 2⟩, hx⟩
              obtain ⟨⟨z0, z2⟩, -⟩ := HK.out _ (Below.refl _ _)
              go_wp2
              go_region_held3 (fun wx => (wx.cell? ⟨rg, 0, none⟩ = some (.int .i64 E1.m) ∧ wx.cell? ⟨rg, 2, none⟩ = some (.slice At E1.l.length ct)) ∧ Below w4.heap.size w4 wx)
                (first | exact HK.out _ (Below.refl _ _).drew | exact HK.out _ (And.right (by assumption)))
                (first
                  | (go_at_call 29; refine (sesMark_any (HP4.out.e.below (And.right (by assumption)))).mono ?_; rintro e w9 ⟨rfl, rfl⟩)
                  | (go_at_call 30; refine (sesWaiting_any (HP4.out.e.below (And.right (by assumption)))).mono ?_; rintro e w9 ⟨rfl, rfl⟩))
              all_goals
                have HZ := Lib.hid (HP4.out.below (And.right (by assumption)))
                have HZB := Lib.hid (HB4.out.trans ((And.right (by assumption) : Below w4.heap.size w4 _).mono HB4.out.size))
                go_wp2
                go_roundw
                case rel => exact ⟨k + 1, _, _, _, E1, by omega, rfl, by go_num, Lib.hid ⟨HZ.out, HSh.out, HZB.out⟩⟩
                case measure => simp [intOf]; omega
          have e4 : (ok == 4) = false := by simpa using hk4
          by_cases hk5 : ok = 5
          · subst hk5
            as_aux_lemma =>
              have HSh := Lib.hid HS0.out
              have Hg := Lib.hid HPa.out.e.good
              obtain ⟨Z, hZ⟩ : ∃ Z : ByteArray, (⟨E.save.toArray⟩ : ByteArray) = Z := ⟨_, rfl⟩
              have HZl : Hid (loadT Z.data.toList = (E, 0)) := Lib.hid (by rw [← hZ]; exact loadT_save HPa.out.e.good)
              have HZs : Hid (Z.size ≤ 1000000) := Lib.hid (by rw [← hZ]; exact save_size HS0.out HPa.out.e.good)
              have HZ0 := Lib.hid hZ
              clear hZ
              go_wp2_with fail
              refine (sesSave_any HPa.out.e (HS0.out.body Hg.out)).mono ?_
              rw [HZ0.out]
              rintro e w3 ⟨rfl, b3⟩
              have HP3 := Lib.hid (HPa.out.below b3)
              have HB3 := Lib.hid (HBa.out.trans (b3.mono HPa.out.lo))
              clear b3 x0 x1 x2
              go_wp2_with fail
              refine (sesLoad_any Z w3 HZs.out).mono ?_
              unfold LoadP
              rw [HZl.out]
              rintro e w4 (⟨h9, -⟩ | ⟨-, g4, v4, rfl, h4, b4⟩)
              · exact absurd rfl h9
              have HP4 := Lib.hid (HP3.out.fresh h4 b4 HP3.out.lo)
              have HB4 := Lib.hid (HB3.out.trans (b4.mono HP3.out.lo))
              clear h4 b4
              go_wp2_with fail
              refine (refSave_any HP4.out.r (HS0.out.body Hg.out)).mono ?_
              rw [HZ0.out]
              rintro e w5 ⟨rfl, b5⟩
              have HP5 := Lib.hid (HP4.out.below b5)
              have HB5 := Lib.hid (HB4.out.trans (b5.mono HP4.out.lo))
              clear b5
              obtain ⟨At, ct, rfl, -⟩ := HP5.out.r.own.slice
              have HK : Hid (∀ wx, Below w5.heap.size w5 wx → (wx.cell? ⟨rg, 0, none⟩ = some (.int .i64 E.m) ∧ wx.cell? ⟨rg, 2, none⟩ = some (.slice At E.l.length ct)) ∧ Below w5.heap.size w5 wx) := Lib.hid fun wx hx => ⟨⟨(HP5.out.r.below hx).box.cell 0, (HP5.out.r.below hx).box.cell 2⟩, hx⟩
              obtain ⟨⟨z0, z2⟩, -⟩ := HK.out _ (Below.refl _ _)
              go_wp2
              go_region_held3 (fun wx => (wx.cell? ⟨rg, 0, none⟩ = some (.int .i64 E.m) ∧ wx.cell? ⟨rg, 2, none⟩ = some (.slice At E.l.length ct)) ∧ Below w5.heap.size w5 wx)
                (first | exact HK.out _ (Below.refl _ _).drew | exact HK.out _ (And.right (by assumption)))
                (first
                  | (go_at_call 29; refine (sesMark_any (HP5.out.e.below (And.right (by assumption)))).mono ?_; rintro e w9 ⟨rfl, rfl⟩)
                  | (go_at_call 30; refine (sesWaiting_any (HP5.out.e.below (And.right (by assumption)))).mono ?_; rintro e w9 ⟨rfl, rfl⟩))
              all_goals
                have HZ := Lib.hid (HP5.out.below (And.right (by assumption)))
                have HZB := Lib.hid (HB5.out.trans ((And.right (by assumption) : Below w5.heap.size w5 _).mono HB5.out.size))
                go_wp2
                go_roundw
                case rel => exact ⟨k + 1, _, _, _, E, by omega, rfl, by go_num, Lib.hid ⟨HZ.out, HSh.out, HZB.out⟩⟩
                case measure => simp [intOf]; omega
          have e5 : (ok == 5) = false := by simpa using hk5
          have HSh := Lib.hid HS0.out
          clear hk1 hk2 hk3 hk4 hk5
          obtain ⟨At, ct, rfl, -⟩ := HPa.out.r.own.slice
          have HK : Hid (∀ wx, Below wa.heap.size wa wx → (wx.cell? ⟨rg, 0, none⟩ = some (.int .i64 E.m) ∧ wx.cell? ⟨rg, 2, none⟩ = some (.slice At E.l.length ct)) ∧ Below wa.heap.size wa wx) := Lib.hid fun wx hx => ⟨⟨(HPa.out.r.below hx).box.cell 0, (HPa.out.r.below hx).box.cell 2⟩, hx⟩
          obtain ⟨⟨z0, z2⟩, -⟩ := HK.out _ (Below.refl _ _)
          go_wp2
          go_region_held3 (fun wx => (wx.cell? ⟨rg, 0, none⟩ = some (.int .i64 E.m) ∧ wx.cell? ⟨rg, 2, none⟩ = some (.slice At E.l.length ct)) ∧ Below wa.heap.size wa wx)
            (first | exact HK.out _ (Below.refl _ _).drew | exact HK.out _ (And.right (by assumption)))
            (first
              | (go_at_call 29; refine (sesMark_any (HPa.out.e.below (And.right (by assumption)))).mono ?_; rintro e w9 ⟨rfl, rfl⟩)
              | (go_at_call 30; refine (sesWaiting_any (HPa.out.e.below (And.right (by assumption)))).mono ?_; rintro e w9 ⟨rfl, rfl⟩))
          all_goals
            have HZ := Lib.hid (HPa.out.below (And.right (by assumption)))
            have HZB := Lib.hid (HBa.out.trans ((And.right (by assumption) : Below wa.heap.size wa _).mono HBa.out.size))
            go_wp2
            go_roundw
            case rel => exact ⟨k + 1, _, _, _, E, by omega, rfl, by go_num, Lib.hid ⟨HZ.out, HSh.out, HZB.out⟩⟩
            case measure => simp [intOf]; omega
      · go_wp2
        go_ret
        exact ⟨rfl, Hb1.out.trans (HR.out.2.2.mono Hb1.out.size)⟩
end Go.Proofs.Ytaljojjpgkmiiaa

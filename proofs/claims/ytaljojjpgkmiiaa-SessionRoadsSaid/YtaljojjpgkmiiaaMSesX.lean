/- The walk of SessionRoads. No condition. -/
import Derived.Test.YtaljojjpgkmiiaaMSesU
import Derived.Test.YtaljojjpgkmiiaaMSesF
import Derived.Test.YtaljojjpgkmiiaaMSesN
import Derived.Test.YtaljojjpgkmiiaaMNetB
import Derived.Test.YtaljojjpgkmiiaaMRow
import Derived.Test.YtaljojjpgkmiiaaMLetU
import Derived.Test.YtaljojjpgkmiiaaMLet
import Derived.Deep.RegionHeld3
import Derived.Deep.DeepCutAuto
import Derived.Deep.CutBlock
namespace Go.Proofs.Ytaljojjpgkmiiaa
open Go.RowKit

set_option maxRecDepth 100000 in
set_option maxHeartbeats 51200000 in
theorem roads_walk (A : Option Addr) (n c C : Nat) (l : List TMov) (w : World) (h : HasMovs w C A n l) (hC : C ≤ w.heap.size) : Calls Try.prog 5 #[.slice A n c] w fun e w' => e = .returned (.bool true) ∧ Below w.heap.size w w' := by
  by_cases hbig : 200 < n
  · have g1 : (200 : Int) < (n : Int) := by omega
    clear h hbig
    go_enter Try.func5, Try.ntmps5
    go_wp2_with fail
    refine (awake15_any w).mono ?_
    rintro e w1 ⟨rfl, b1⟩
    have Hb1 := Lib.hid b1
    clear b1
    go_wp2
    go_ret
    exact ⟨rfl, Hb1.out⟩
  · have g1 : ¬ (200 : Int) < (n : Int) := by omega
    have HA := Lib.hid h
    have HC := Lib.hid hC
    have Hn : Hid (n ≤ 200) := Lib.hid (by omega)
    clear h hC hbig
    go_enter Try.func5, Try.ntmps5
    go_wp2_with fail
    refine (awake15_any w).mono ?_
    rintro e w1 ⟨rfl, b1⟩
    have Hb1 := Lib.hid b1
    clear b1
    go_wp2_with fail
    refine (sesNew_any w1).mono ?_
    rintro e w2 ⟨g0, rfl, h2, b2⟩
    have H2 := Lib.hid (And.intro h2 b2)
    clear h2 b2
    go_wp2_with fail
    refine (sesNew_any w2).mono ?_
    rintro e w3 ⟨gg, rfl, h3, b3⟩
    have H3 := Lib.hid (And.intro h3 b3)
    clear h3 b3
    go_wp2_with fail
    refine (netNew_any w3).mono ?_
    rintro e w4 ⟨sb, mb, rfl, n4, b4⟩
    have H4 : Hid (RSt (w4.alloc (.cells #[.pointer (some ⟨g0, 0, none⟩), .pointer (some ⟨gg, 0, none⟩), .slice none 0 0, .slice none 0 0, .slice none 0 0, .slice none 0 0, .pointer (some ⟨sb, 0, none⟩)] 58)) w1.heap.size w4.heap.size sb mb 0 (fn0 g0 gg) (fun _ => .slice none 0 0) (fun _ => ⟨0, 0, []⟩) (fun _ => []) [] 0 w1) := Lib.hid (by
      have q0 := (H2.out.1.below H3.out.2).below b4
      have q1 := (H3.out.1.below b4).base H2.out.2.size
      have hb : Below w1.heap.size w1 w4 := (H2.out.2.trans (H3.out.2.mono H2.out.2.size)).trans (b4.mono (Nat.le_trans H2.out.2.size H3.out.2.size))
      exact ⟨Road.new q0 q1 (fun e => by have := H2.out.1.lt; have := H3.out.1.gB; omega) (n4.base (Nat.le_trans H2.out.2.size H3.out.2.size)), inv_new, by simp, by omega, fun i _ x hx => by simp at hx, hb.alloc hb.size _⟩)
    clear n4 b4 H2 H3
    go_wp2
    generalize w4.alloc (.cells #[.pointer (some ⟨g0, 0, none⟩), .pointer (some ⟨gg, 0, none⟩), .slice none 0 0, .slice none 0 0, .slice none 0 0, .slice none 0 0, .pointer (some ⟨sb, 0, none⟩)] 58) = w5 at H4 ⊢
    generalize w4.heap.size = rb at H4 ⊢
    go_loopw [4] (fun i wr => ∃ (k : Nat) (g : Nat → Nat) (u : Nat → Value) (E : Es) (X : Xs) (N : List NEn) (d : Nat), k ≤ n ∧ i = .int .i64 (k : Int) ∧ Hid (RSt wr w1.heap.size rb sb mb k g u E X N d w1)) (fun i _ => n - (intOf i).toNat)
    case atStart => exact ⟨0, _, _, _, _, _, _, Nat.zero_le _, rfl, H4⟩
    case round =>
      clear H4
      obtain ⟨k, g, u, E, X, N, d, hk, rfl, HR⟩ := hrel
      by_cases hlt : k < n
      · have hb0 : Below w.heap.size w wr := Hb1.out.trans (HR.out.bel.mono Hb1.out.size)
        obtain ⟨a, o, rfl, hab, -, c0, c1, c2, c3⟩ := (HA.out.belowOf hb0 HC.out).at_ hlt
        have hab' : a.block < w.heap.size := Nat.lt_of_lt_of_le hab HC.out
        obtain ⟨ok, om, on, os⟩ := o
        simp only at c0 c1 c2 c3
        obtain ⟨q, hq2, hq⟩ := bits_two om
        have Hq2 := Lib.hid hq2
        have p6 := HR.out.road.cells.2.2.2.2.2.2
        go_wp2_with fail
        refine (netUnder_any HR.out.road.net (by have := HR.out.few; have := Hn.out; omega)).mono ?_
        rintro e w6 ⟨v6, rfl, o6, b6⟩
        obtain ⟨A6, c6, rfl, -, -, hh6⟩ := own_sliceN o6
        obtain ⟨M, hM⟩ : ∃ M, N.length = M := ⟨_, rfl⟩
        have HM := Lib.hid hM
        rw [hM] at hh6 ⊢
        have hM4 : M ≤ 4000 := by rw [← hM]; have := HR.out.few; have := Hn.out; omega
        have HM4 := Lib.hid hM4
        have H6 := Lib.hid (HR.out.below b6)
        have HcW : Hid (∀ wx, Below w1.heap.size w1 wx → wx.cell? (a.add (k * 4)) = some (.int .i64 ok) ∧ wx.cell? ⟨(a.add (k * 4)).block, (a.add (k * 4)).off + 2, none⟩ = some (.int .i64 on) ∧ wx.cell? ⟨(a.add (k * 4)).block, (a.add (k * 4)).off + 3, none⟩ = some (.string os)) := Lib.hid fun wx hx => by
          have hb := Hb1.out.trans (hx.mono Hb1.out.size)
          have k0 : ∀ p : Addr, p.block = a.block → wx.cell? p = wr.cell? p := fun p hp => (hb.cell (by omega)).trans (hb0.cell (by omega)).symm
          exact ⟨(k0 _ (addr_block _ _)).trans c0, (k0 _ (by simp [addr_block])).trans c2, (k0 _ (by simp [addr_block])).trans c3⟩
        obtain ⟨d0, d2, d3⟩ := HcW.out w6 H6.out.bel
        have Hh6 := Lib.hid hh6
        clear c0 c1 c2 c3 o6 b6 hh6 hM p6 hab hab' hb0
        go_upto_if 50 with fail
        go_cut [7] (fun v wx => ∃ kn : Int, v = .int .i64 kn ∧ (Lit.int .i64 kn).wf = true ∧ wx = w6)
        case first =>
          by_cases h0 : M = 0
          · subst h0
            go_wp2
            go_meet
            exact ⟨0, rfl, by rfl, rfl⟩
          · have e1 : (0 : Int) < (M : Int) := by omega
            obtain ⟨x, hx, hxM⟩ : ∃ x : Nat, (IntKind.u64.wrap on).tmod (M : Int) = (x : Int) ∧ x < M := by
              have hU : 0 ≤ IntKind.u64.wrap on := u64_nonneg on
              obtain ⟨U, hU2⟩ : ∃ U : Nat, IntKind.u64.wrap on = (U : Int) := ⟨(IntKind.u64.wrap on).toNat, by omega⟩
              rw [hU2]
              exact ⟨U % M, rfl, Nat.mod_lt _ (by omega)⟩
            obtain ⟨a6, rfl, -, hcx⟩ := Hh6.out.cell (k := x) (by omega)
            obtain ⟨p, hp⟩ : ∃ p, N[x]? = some p := ⟨_, List.getElem?_eq_getElem (by have := HM.out; omega)⟩
            have hpn := HR.out.road.net.nums p (List.mem_of_getElem? hp)
            have hpd := HR.out.dk
            have hwf : (Lit.int .i64 p.n).wf = true := by
              obtain ⟨y, hy⟩ : ∃ y : Nat, p.n = (y : Int) := ⟨p.n.toNat, by omega⟩
              rw [hy]
              exact wf_nat y (by have := Hn.out; omega)
            simp only [List.getD_eq_getElem?_getD, List.getElem?_map, hp, Option.map_some, Option.getD_some, encZ] at hcx
            have hx4 : x < 4000 := by omega
            clear hp hpn hpd h0
            go_wp2
            go_meet
            exact ⟨p.n, rfl, hwf, rfl⟩
        case rest =>
          obtain ⟨kn, rfl, hkn, rfl⟩ := hcut
          have Hkn := Lib.hid hkn
          have Hst : Hid (RSt wc w1.heap.size rb sb mb k g u E X N d w1) := H6
          have hkn' : k < 200 := by have := Hn.out; omega
          have Hk : Hid (k < 200) := Lib.hid hkn'
          clear hkn hM4 H6 hkn'
          go_upto_block 2 with fail
          go_cut [4] (fun iv wx => iv = .int .i64 (k : Int) ∧ Hid (∃ (g : Nat → Nat) (u : Nat → Value) (E : Es) (X : Xs) (N : List NEn) (d : Nat), RSt wx w1.heap.size rb sb mb (k + 1) g u E X N d w1))
          case first =>
            obtain ⟨d0, d2, d3⟩ := HcW.out wc Hst.out.bel
            have p0 := Hst.out.road.cells.1
            have p1 := Hst.out.road.cells.2.1
            have p6 := Hst.out.road.cells.2.2.2.2.2.2
            by_cases hk1 : ok = 1
            · as_aux_lemma =>
                subst hk1
                by_cases hs : 100 < os.size
                · have g2 : (100 : Int) < (os.size : Int) := by omega
                  clear hs
                  go_wp2
                  go_ret
                  exact ⟨rfl, Hb1.out.trans (Hst.out.bel.mono Hb1.out.size)⟩
                · have g2 : ¬ (100 : Int) < (os.size : Int) := by omega
                  have Hos : Hid (os.size ≤ 100) := Lib.hid (by omega)
                  clear hs
                  rcases (show q = 0 ∨ q = 1 by omega) with rfl | rfl
                  · obtain ⟨⟨E1, a1, a2⟩, hE⟩ : ∃ r, (E 0).send os = r := ⟨_, rfl⟩
                    have HE := Lib.hid hE
                    have Hd := Lib.hid (Hst.out.below (Below.refl _ wc).drew)
                    have HS := Lib.hid (sesSend_any (Hd.out.road.ends 0 (by omega)) Hd.out.road.lo os)
                    unfold SendEP at HS
                    rw [hE] at HS
                    clear hE d0 d2
                    go_wp2
                    go_region_held3 (fun wx => wx.cell? ⟨rb, 0, none⟩ = some (.pointer (some ⟨g 0, 0, none⟩)) ∧ wx.cell? ⟨rb, 1, none⟩ = some (.pointer (some ⟨g 1, 0, none⟩)) ∧ wx.cell? ⟨(a.add (k * 4)).block, (a.add (k * 4)).off + 3, none⟩ = some (.string os))
                      (first | exact ⟨Hd.out.road.cells.1, Hd.out.road.cells.2.1, (HcW.out _ Hd.out.bel).2.2⟩ | exact ⟨r7.1.cells.1, r7.1.cells.2.1, (HcW.out _ hb7).2.2⟩)
                      (first
                        | (go_at_call 17; refine HS.out.mono ?_; rintro e w7 ⟨v7, rfl, h7, k7, n7⟩; have r7 := Hd.out.road.atEnd (i := 0) (by omega) h7 k7 n7.toW; have hb7 := Hd.out.bel.trans r7.2))
                    all_goals
                      have R7 := Lib.hid (And.intro r7.1 hb7)
                      clear h7 k7 n7 r7 hb7 HS p0 p1 d3
                      by_cases h0 : a2 = 0
                      · subst h0
                        obtain ⟨L, hL⟩ : ∃ L, (X 2).length = L := ⟨_, rfl⟩
                        have HL : Hid ((X 2).length = L ∧ L ≤ 1000000) := Lib.hid ⟨hL, by rw [← hL]; have h9 : (X 2).length ≤ 20 * k := Hst.out.lens (i := 0) (by omega); have := Hn.out; omega⟩
                        obtain ⟨Au, cu, hu, -, -, -⟩ := (R7.out.1.rows 2 (by omega) (by omega)).slice
                        rw [hL] at hu
                        have Hu := Lib.hid hu
                        have HX : Hid (∀ wx, Below w7.heap.size w7 wx → wx.cell? ⟨rb, 2, none⟩ = some (.slice Au L cu) ∧ wx.cell? ⟨(a.add (k * 4)).block, (a.add (k * 4)).off + 3, none⟩ = some (.string os)) := Lib.hid fun wx hx => by
                          have h9 := R7.out.1.below hx
                          have h8 : wx.cell? ⟨rb, 2, none⟩ = some (upd u 0 v7 2) := h9.box.cell 2
                          rw [Hu.out] at h8
                          exact ⟨h8, (HcW.out wx (R7.out.2.trans (hx.mono R7.out.1.lo))).2.2⟩
                        have Ho : Hid (w7.ownsRow w1.heap.size 9 1 (.slice Au L cu) L ((X 2).map Value.string)) := Lib.hid (by have h9 := R7.out.1.rows 2 (by omega) (by omega); unfold OwnTx at h9; rw [HL.out.1, Hu.out] at h9; exact h9)
                        obtain ⟨z1, z2⟩ := HX.out w7 (Below.refl _ _)
                        obtain ⟨y1, y2⟩ := HX.out w7.drew (Below.refl _ _).drew
                        have hba : Below w7.heap.size w7 (w7.alloc (Obj.cells #[.string os] 9)).drew := ((Below.refl _ w7).alloc (Nat.le_refl _) _).drew
                        obtain ⟨a1', a2'⟩ := HX.out _ hba
                        have hbb : Below w7.heap.size w7 (w7.alloc (Obj.cells #[.string os] 9)) := (Below.refl _ w7).alloc (Nat.le_refl _) _
                        obtain ⟨q1, q2⟩ := HX.out _ hbb
                        clear hu hL
                        go_wp2
                        refine wp_region_held_drew (S := fun _ => True) (by kernel_rfl) trivial (fun _ => ?_)
                        refine wpAnyH_take (i := 0) (oi := ⟨some 96, _, _, _, _, _⟩) (v := .pointer (some ⟨rb, 0, none⟩)) rfl (by kernel_rfl) (by kernel_rfl) (by kernel_rfl) (fun _ _ _ h => h) (Or.inl ⟨by rfl, ?_⟩) (by assumption) ?_
                        · intro w hSw; (try dsimp only at hSw); go_simp
                        simp only [Act.put, List.setIfInBounds_toArray, List.set_cons_zero, List.set_cons_succ]
                        refine wpAnyH_take (i := 1) (oi := ⟨some 97, _, _, _, _, _⟩) (v := .int .i64 0) rfl (by kernel_rfl) (by kernel_rfl) (by kernel_rfl) (fun _ _ _ h => h) (Or.inl ⟨by rfl, ?_⟩) (by assumption) ?_
                        · intro w hSw; (try dsimp only at hSw); go_simp
                        simp only [Act.put, List.setIfInBounds_toArray, List.set_cons_zero, List.set_cons_succ]
                        refine wpAnyH_take (i := 2) (oi := ⟨some 98, _, _, _, _, _⟩) (v := .pointer (some ⟨rb, 0, none⟩)) rfl (by kernel_rfl) (by kernel_rfl) (by kernel_rfl) (fun _ _ _ h => h) (Or.inl ⟨by rfl, ?_⟩) (by assumption) ?_
                        · intro w hSw; (try dsimp only at hSw); go_simp
                        simp only [Act.put, List.setIfInBounds_toArray, List.set_cons_zero, List.set_cons_succ]
                        refine wpAnyH_take (i := 3) (oi := ⟨some 99, _, _, _, _, _⟩) (v := .int .i64 0) rfl (by kernel_rfl) (by kernel_rfl) (by kernel_rfl) (fun _ _ _ h => h) (Or.inl ⟨by rfl, ?_⟩) (by assumption) ?_
                        · intro w hSw; (try dsimp only at hSw); go_simp
                        simp only [Act.put, List.setIfInBounds_toArray, List.set_cons_zero, List.set_cons_succ]
                        refine wpAnyH_take (i := 4) (oi := ⟨some 100, _, _, _, _, _⟩) (v := .pointer (some ⟨rb, 0, none⟩)) rfl (by kernel_rfl) (by kernel_rfl) (by kernel_rfl) (fun _ _ _ h => h) (Or.inl ⟨by rfl, ?_⟩) (by assumption) ?_
                        · intro w hSw; (try dsimp only at hSw); go_simp
                        simp only [Act.put, List.setIfInBounds_toArray, List.set_cons_zero, List.set_cons_succ]
                        refine wpAnyH_take (i := 5) (oi := ⟨some 101, _, _, _, _, _⟩) (v := .pointer (some ⟨rb, 2, none⟩)) rfl (by kernel_rfl) (by kernel_rfl) (by kernel_rfl) (fun _ _ _ h => h) (Or.inl ⟨by rfl, ?_⟩) (by assumption) ?_
                        · intro w hSw; (try dsimp only at hSw); go_simp
                        simp only [Act.put, List.setIfInBounds_toArray, List.set_cons_zero, List.set_cons_succ]
                        refine wpAnyH_take (i := 6) (oi := ⟨some 102, _, _, _, _, _⟩) (v := .pointer (some ⟨rb, 2, none⟩)) rfl (by kernel_rfl) (by kernel_rfl) (by kernel_rfl) (fun _ _ _ h => h) (Or.inl ⟨by rfl, ?_⟩) (by assumption) ?_
                        · intro w hSw; (try dsimp only at hSw); go_simp
                        simp only [Act.put, List.setIfInBounds_toArray, List.set_cons_zero, List.set_cons_succ]
                        refine wpAnyH_take (i := 8) (oi := ⟨some 104, _, _, _, _, _⟩) (v := .slice (some a) n c) rfl (by kernel_rfl) (by kernel_rfl) (by kernel_rfl) (fun _ _ _ h => h) (Or.inl ⟨by rfl, ?_⟩) (by assumption) ?_
                        · intro w hSw; (try dsimp only at hSw); go_simp
                        simp only [Act.put, List.setIfInBounds_toArray, List.set_cons_zero, List.set_cons_succ]
                        refine wpAnyH_take (i := 9) (oi := ⟨some 105, _, _, _, _, _⟩) (v := .int .i64 (k : Int)) rfl (by kernel_rfl) (by kernel_rfl) (by kernel_rfl) (fun _ _ _ h => h) (Or.inl ⟨by rfl, ?_⟩) (by assumption) ?_
                        · intro w hSw; (try dsimp only at hSw); go_simp
                        simp only [Act.put, List.setIfInBounds_toArray, List.set_cons_zero, List.set_cons_succ]
                        refine wpAnyH_take (i := 10) (oi := ⟨some 106, _, _, _, _, _⟩) (v := .pointer (some (a.add (k * 4)))) rfl (by kernel_rfl) (by kernel_rfl) (by kernel_rfl) (fun _ _ _ h => h) (Or.inl ⟨by rfl, ?_⟩) (by assumption) ?_
                        · intro w hSw; (try dsimp only at hSw); go_simp
                        simp only [Act.put, List.setIfInBounds_toArray, List.set_cons_zero, List.set_cons_succ]
                        refine wpAnyH_take (i := 11) (oi := ⟨some 107, _, _, _, _, _⟩) (v := .pointer (some ⟨(a.add (k * 4)).block, (a.add (k * 4)).off + 3, none⟩)) rfl (by kernel_rfl) (by kernel_rfl) (by kernel_rfl) (fun _ _ _ h => h) (Or.inl ⟨by rfl, ?_⟩) (by assumption) ?_
                        · intro w hSw; (try dsimp only at hSw); go_simp
                        simp only [Act.put, List.setIfInBounds_toArray, List.set_cons_zero, List.set_cons_succ]
                        refine wpAnyH_take (i := 15) (oi := ⟨some 111, _, _, _, _, _⟩) (v := .pointer (some ⟨rb, 0, none⟩)) rfl (by kernel_rfl) (by kernel_rfl) (by kernel_rfl) (fun _ _ _ h => h) (Or.inl ⟨by rfl, ?_⟩) (by assumption) ?_
                        · intro w hSw; (try dsimp only at hSw); go_simp
                        simp only [Act.put, List.setIfInBounds_toArray, List.set_cons_zero, List.set_cons_succ]
                        refine wpAnyH_take (i := 16) (oi := ⟨some 112, _, _, _, _, _⟩) (v := .pointer (some ⟨rb, 2, none⟩)) rfl (by kernel_rfl) (by kernel_rfl) (by kernel_rfl) (fun _ _ _ h => h) (Or.inl ⟨by rfl, ?_⟩) (by assumption) ?_
                        · intro w hSw; (try dsimp only at hSw); go_simp
                        simp only [Act.put, List.setIfInBounds_toArray, List.set_cons_zero, List.set_cons_succ]
                        refine wpAnyH_ready (rs := [7, 12]) (by kernel_rfl) (by simp) (AllReadyH.cons (o := ⟨some 103, _, _, _, _, _⟩) rfl (fun K hK => ?_) (AllReadyH.cons (o := ⟨some 108, _, _, _, _, _⟩) rfl (fun K hK => ?_) AllReadyH.nil))
                        · go_simp
                          refine hK.out _ _ trivial (fun _ => ?_)
                          clear hK K
                          refine wpAnyH_ready (rs := [12]) (by kernel_rfl) (by simp) (AllReadyH.cons (o := ⟨some 108, _, _, _, _, _⟩) rfl (fun K hK => ?_) AllReadyH.nil)
                          go_simp
                          refine hK.out _ _ trivial (fun _ => ?_)
                          clear hK K
                          refine wpAnyH_ready (rs := [13]) (by kernel_rfl) (by simp) (AllReadyH.cons (o := ⟨some 109, _, _, _, _, _⟩) rfl (fun K hK => ?_) AllReadyH.nil)
                          go_simp
                          refine hK.out _ _ trivial (fun _ => ?_)
                          clear hK K
                          refine wpAnyH_ready (rs := [14]) (by kernel_rfl) (by simp) (AllReadyH.cons (o := ⟨some 110, _, _, _, _, _⟩) rfl (fun K hK => ?_) AllReadyH.nil)
                          refine step_append_hasN rfl (.tmp 103) (.tmp 109) 27 rfl 9 tx_elem (by omega) Try.underlying27 rfl (own_belowN Ho.out hba) rfl (Has.below (Has.lit w7 #[.string os] 9) (by have h9 := (Below.refl (w7.alloc (.cells #[.string os] 9)).heap.size (w7.alloc (.cells #[.string os] 9))).drew; rwa [World.size_alloc] at h9)) (fun u hu => by simp at hu; subst hu; rfl) (by have := HL.out.2; simp only [maxLen]; omega) (by have := HL.out.2; omega) (Nat.le_trans R7.out.1.lo hba.size) ?_
                          intro vA wA oA gA zA
                          obtain ⟨AA, cA, rfl, -, -, -⟩ := own_sliceN oA
                          have hbx := (R7.out.1.box.below hba R7.out.1.box.lt).grown gA (fun e => own_no_box Ho.out R7.out.1.box (by decide) rb e.symm rfl)
                          have c7 : wA.cell? ⟨rb, 2, none⟩ = some (.slice Au L cu) := (hbx.cell 2).trans (congrArg some Hu.out)
                          have f7 := hbx.frozen 2
                          have HF : Hid (∃ (g : Nat → Nat) (u : Nat → Value) (E : Es) (X : Xs) (N : List NEn) (d : Nat), RSt (wA.setCell ⟨rb, 2, none⟩ (.slice AA (L + 1) cA)) w1.heap.size rb sb mb (k + 1) g u E X N d w1) := Lib.hid (by
                            have h9 := R7.out.1.app (i := 2) (x := os) (by omega) hba (by rw [HL.out.1]; exact oA) (by rw [Hu.out]; exact gA) (by rw [Hu.out]; exact zA)
                            have e1 : ((E 0).send os).1 = E1 := by rw [HE.out]
                            refine ⟨_, _, _, _, _, _, Hst.out.send (q := 0) (by omega) Hos.out (by rw [HE.out]) (by rw [e1]; exact h9.1) (R7.out.2.trans h9.2)⟩)
                          clear oA gA zA hbx
                          refine hK.out _ _ trivial (fun _ => ?_)
                          clear hK K
                          refine wpAnyH_take (i := 17) (oi := ⟨some 113, _, _, _, _, _⟩) (v := .pointer (some ⟨rb, 2, none⟩)) rfl (by kernel_rfl) (by kernel_rfl) (by kernel_rfl) (fun _ _ _ h => h) (Or.inl ⟨by rfl, ?_⟩) (by assumption) ?_
                          · intro w hSw; (try dsimp only at hSw); go_simp
                          simp only [Act.put, List.setIfInBounds_toArray, List.set_cons_zero, List.set_cons_succ]
                          refine wpAnyH_ready (rs := [18]) (by kernel_rfl) (by simp) (AllReadyH.cons (o := ⟨none, _, _, _, _, _⟩) rfl (fun K hK => ?_) AllReadyH.nil)
                          go_simp
                          refine hK.out _ _ trivial (fun _ => ?_)
                          clear hK K
                          refine wpAnyH_done (by kernel_rfl) ?_ _
                          clear c7 f7
                          go_wp2
                          go_meet
                          exact ⟨rfl, HF⟩
                        · go_simp
                          refine hK.out _ _ trivial (fun _ => ?_)
                          clear hK K
                          refine wpAnyH_ready (rs := [7, 13]) (by kernel_rfl) (by simp) (AllReadyH.cons (o := ⟨some 103, _, _, _, _, _⟩) rfl (fun K hK => ?_) (AllReadyH.cons (o := ⟨some 109, _, _, _, _, _⟩) rfl (fun K hK => ?_) AllReadyH.nil))
                          · go_simp
                            refine hK.out _ _ trivial (fun _ => ?_)
                            clear hK K
                            refine wpAnyH_ready (rs := [13]) (by kernel_rfl) (by simp) (AllReadyH.cons (o := ⟨some 109, _, _, _, _, _⟩) rfl (fun K hK => ?_) AllReadyH.nil)
                            go_simp
                            refine hK.out _ _ trivial (fun _ => ?_)
                            clear hK K
                            refine wpAnyH_ready (rs := [14]) (by kernel_rfl) (by simp) (AllReadyH.cons (o := ⟨some 110, _, _, _, _, _⟩) rfl (fun K hK => ?_) AllReadyH.nil)
                            refine step_append_hasN rfl (.tmp 103) (.tmp 109) 27 rfl 9 tx_elem (by omega) Try.underlying27 rfl (own_belowN Ho.out hba) rfl (Has.below (Has.lit w7 #[.string os] 9) (by have h9 := (Below.refl (w7.alloc (.cells #[.string os] 9)).heap.size (w7.alloc (.cells #[.string os] 9))).drew; rwa [World.size_alloc] at h9)) (fun u hu => by simp at hu; subst hu; rfl) (by have := HL.out.2; simp only [maxLen]; omega) (by have := HL.out.2; omega) (Nat.le_trans R7.out.1.lo hba.size) ?_
                            intro vA wA oA gA zA
                            obtain ⟨AA, cA, rfl, -, -, -⟩ := own_sliceN oA
                            have hbx := (R7.out.1.box.below hba R7.out.1.box.lt).grown gA (fun e => own_no_box Ho.out R7.out.1.box (by decide) rb e.symm rfl)
                            have c7 : wA.cell? ⟨rb, 2, none⟩ = some (.slice Au L cu) := (hbx.cell 2).trans (congrArg some Hu.out)
                            have f7 := hbx.frozen 2
                            have HF : Hid (∃ (g : Nat → Nat) (u : Nat → Value) (E : Es) (X : Xs) (N : List NEn) (d : Nat), RSt (wA.setCell ⟨rb, 2, none⟩ (.slice AA (L + 1) cA)) w1.heap.size rb sb mb (k + 1) g u E X N d w1) := Lib.hid (by
                              have h9 := R7.out.1.app (i := 2) (x := os) (by omega) hba (by rw [HL.out.1]; exact oA) (by rw [Hu.out]; exact gA) (by rw [Hu.out]; exact zA)
                              have e1 : ((E 0).send os).1 = E1 := by rw [HE.out]
                              refine ⟨_, _, _, _, _, _, Hst.out.send (q := 0) (by omega) Hos.out (by rw [HE.out]) (by rw [e1]; exact h9.1) (R7.out.2.trans h9.2)⟩)
                            clear oA gA zA hbx
                            refine hK.out _ _ trivial (fun _ => ?_)
                            clear hK K
                            refine wpAnyH_take (i := 17) (oi := ⟨some 113, _, _, _, _, _⟩) (v := .pointer (some ⟨rb, 2, none⟩)) rfl (by kernel_rfl) (by kernel_rfl) (by kernel_rfl) (fun _ _ _ h => h) (Or.inl ⟨by rfl, ?_⟩) (by assumption) ?_
                            · intro w hSw; (try dsimp only at hSw); go_simp
                            simp only [Act.put, List.setIfInBounds_toArray, List.set_cons_zero, List.set_cons_succ]
                            refine wpAnyH_ready (rs := [18]) (by kernel_rfl) (by simp) (AllReadyH.cons (o := ⟨none, _, _, _, _, _⟩) rfl (fun K hK => ?_) AllReadyH.nil)
                            go_simp
                            refine hK.out _ _ trivial (fun _ => ?_)
                            clear hK K
                            refine wpAnyH_done (by kernel_rfl) ?_ _
                            clear c7 f7
                            go_wp2
                            go_meet
                            exact ⟨rfl, HF⟩
                          · go_simp
                            refine hK.out _ _ trivial (fun _ => ?_)
                            clear hK K
                            refine wpAnyH_ready (rs := [7]) (by kernel_rfl) (by simp) (AllReadyH.cons (o := ⟨some 103, _, _, _, _, _⟩) rfl (fun K hK => ?_) AllReadyH.nil)
                            go_simp
                            refine hK.out _ _ trivial (fun _ => ?_)
                            clear hK K
                            refine wpAnyH_ready (rs := [14]) (by kernel_rfl) (by simp) (AllReadyH.cons (o := ⟨some 110, _, _, _, _, _⟩) rfl (fun K hK => ?_) AllReadyH.nil)
                            refine step_append_hasN rfl (.tmp 103) (.tmp 109) 27 rfl 9 tx_elem (by omega) Try.underlying27 rfl (own_belowN Ho.out hba) rfl (Has.below (Has.lit w7 #[.string os] 9) (by have h9 := (Below.refl (w7.alloc (.cells #[.string os] 9)).heap.size (w7.alloc (.cells #[.string os] 9))).drew; rwa [World.size_alloc] at h9)) (fun u hu => by simp at hu; subst hu; rfl) (by have := HL.out.2; simp only [maxLen]; omega) (by have := HL.out.2; omega) (Nat.le_trans R7.out.1.lo hba.size) ?_
                            intro vA wA oA gA zA
                            obtain ⟨AA, cA, rfl, -, -, -⟩ := own_sliceN oA
                            have hbx := (R7.out.1.box.below hba R7.out.1.box.lt).grown gA (fun e => own_no_box Ho.out R7.out.1.box (by decide) rb e.symm rfl)
                            have c7 : wA.cell? ⟨rb, 2, none⟩ = some (.slice Au L cu) := (hbx.cell 2).trans (congrArg some Hu.out)
                            have f7 := hbx.frozen 2
                            have HF : Hid (∃ (g : Nat → Nat) (u : Nat → Value) (E : Es) (X : Xs) (N : List NEn) (d : Nat), RSt (wA.setCell ⟨rb, 2, none⟩ (.slice AA (L + 1) cA)) w1.heap.size rb sb mb (k + 1) g u E X N d w1) := Lib.hid (by
                              have h9 := R7.out.1.app (i := 2) (x := os) (by omega) hba (by rw [HL.out.1]; exact oA) (by rw [Hu.out]; exact gA) (by rw [Hu.out]; exact zA)
                              have e1 : ((E 0).send os).1 = E1 := by rw [HE.out]
                              refine ⟨_, _, _, _, _, _, Hst.out.send (q := 0) (by omega) Hos.out (by rw [HE.out]) (by rw [e1]; exact h9.1) (R7.out.2.trans h9.2)⟩)
                            clear oA gA zA hbx
                            refine hK.out _ _ trivial (fun _ => ?_)
                            clear hK K
                            refine wpAnyH_take (i := 17) (oi := ⟨some 113, _, _, _, _, _⟩) (v := .pointer (some ⟨rb, 2, none⟩)) rfl (by kernel_rfl) (by kernel_rfl) (by kernel_rfl) (fun _ _ _ h => h) (Or.inl ⟨by rfl, ?_⟩) (by assumption) ?_
                            · intro w hSw; (try dsimp only at hSw); go_simp
                            simp only [Act.put, List.setIfInBounds_toArray, List.set_cons_zero, List.set_cons_succ]
                            refine wpAnyH_ready (rs := [18]) (by kernel_rfl) (by simp) (AllReadyH.cons (o := ⟨none, _, _, _, _, _⟩) rfl (fun K hK => ?_) AllReadyH.nil)
                            go_simp
                            refine hK.out _ _ trivial (fun _ => ?_)
                            clear hK K
                            refine wpAnyH_done (by kernel_rfl) ?_ _
                            clear c7 f7
                            go_wp2
                            go_meet
                            exact ⟨rfl, HF⟩
                      · have e9 : ((a2 : Int) == 0) = false := by simpa using h0
                        have HF : Hid (∃ (g : Nat → Nat) (u : Nat → Value) (E : Es) (X : Xs) (N : List NEn) (d : Nat), RSt w7 w1.heap.size rb sb mb (k + 1) g u E X N d w1) := Lib.hid (by
                          have e1 : ((E 0).send os).1 = E1 := by rw [HE.out]
                          exact ⟨_, _, _, _, _, _, Hst.out.sendNo (q := 0) (x := os) (by rw [HE.out]; exact h0) (by rw [e1]; exact R7.out.1) R7.out.2⟩)
                        clear h0
                        go_wp2
                        go_meet
                        exact ⟨rfl, HF⟩
                  · obtain ⟨⟨E1, a1, a2⟩, hE⟩ : ∃ r, (E 1).send os = r := ⟨_, rfl⟩
                    have HE := Lib.hid hE
                    have Hd := Lib.hid (Hst.out.below (Below.refl _ wc).drew)
                    have HS := Lib.hid (sesSend_any (Hd.out.road.ends 1 (by omega)) Hd.out.road.lo os)
                    unfold SendEP at HS
                    rw [hE] at HS
                    clear hE d0 d2
                    go_wp2
                    go_region_held3 (fun wx => wx.cell? ⟨rb, 0, none⟩ = some (.pointer (some ⟨g 0, 0, none⟩)) ∧ wx.cell? ⟨rb, 1, none⟩ = some (.pointer (some ⟨g 1, 0, none⟩)) ∧ wx.cell? ⟨(a.add (k * 4)).block, (a.add (k * 4)).off + 3, none⟩ = some (.string os))
                      (first | exact ⟨Hd.out.road.cells.1, Hd.out.road.cells.2.1, (HcW.out _ Hd.out.bel).2.2⟩ | exact ⟨r7.1.cells.1, r7.1.cells.2.1, (HcW.out _ hb7).2.2⟩)
                      (first
                        | (go_at_call 17; refine HS.out.mono ?_; rintro e w7 ⟨v7, rfl, h7, k7, n7⟩; have r7 := Hd.out.road.atEnd (i := 1) (by omega) h7 k7 n7.toW; have hb7 := Hd.out.bel.trans r7.2))
                    all_goals
                      have R7 := Lib.hid (And.intro r7.1 hb7)
                      clear h7 k7 n7 r7 hb7 HS p0 p1 d3
                      by_cases h0 : a2 = 0
                      · subst h0
                        obtain ⟨L, hL⟩ : ∃ L, (X 3).length = L := ⟨_, rfl⟩
                        have HL : Hid ((X 3).length = L ∧ L ≤ 1000000) := Lib.hid ⟨hL, by rw [← hL]; have h9 : (X 3).length ≤ 20 * k := Hst.out.lens (i := 1) (by omega); have := Hn.out; omega⟩
                        obtain ⟨Au, cu, hu, -, -, -⟩ := (R7.out.1.rows 3 (by omega) (by omega)).slice
                        rw [hL] at hu
                        have Hu := Lib.hid hu
                        have HX : Hid (∀ wx, Below w7.heap.size w7 wx → wx.cell? ⟨rb, 3, none⟩ = some (.slice Au L cu) ∧ wx.cell? ⟨(a.add (k * 4)).block, (a.add (k * 4)).off + 3, none⟩ = some (.string os)) := Lib.hid fun wx hx => by
                          have h9 := R7.out.1.below hx
                          have h8 : wx.cell? ⟨rb, 3, none⟩ = some (upd u 1 v7 3) := h9.box.cell 3
                          rw [Hu.out] at h8
                          exact ⟨h8, (HcW.out wx (R7.out.2.trans (hx.mono R7.out.1.lo))).2.2⟩
                        have Ho : Hid (w7.ownsRow w1.heap.size 9 1 (.slice Au L cu) L ((X 3).map Value.string)) := Lib.hid (by have h9 := R7.out.1.rows 3 (by omega) (by omega); unfold OwnTx at h9; rw [HL.out.1, Hu.out] at h9; exact h9)
                        obtain ⟨z1, z2⟩ := HX.out w7 (Below.refl _ _)
                        obtain ⟨y1, y2⟩ := HX.out w7.drew (Below.refl _ _).drew
                        have hba : Below w7.heap.size w7 (w7.alloc (Obj.cells #[.string os] 9)).drew := ((Below.refl _ w7).alloc (Nat.le_refl _) _).drew
                        obtain ⟨a1', a2'⟩ := HX.out _ hba
                        have hbb : Below w7.heap.size w7 (w7.alloc (Obj.cells #[.string os] 9)) := (Below.refl _ w7).alloc (Nat.le_refl _) _
                        obtain ⟨q1, q2⟩ := HX.out _ hbb
                        clear hu hL
                        go_wp2
                        refine wp_region_held_drew (S := fun _ => True) (by kernel_rfl) trivial (fun _ => ?_)
                        refine wpAnyH_take (i := 0) (oi := ⟨some 96, _, _, _, _, _⟩) (v := .pointer (some ⟨rb, 0, none⟩)) rfl (by kernel_rfl) (by kernel_rfl) (by kernel_rfl) (fun _ _ _ h => h) (Or.inl ⟨by rfl, ?_⟩) (by assumption) ?_
                        · intro w hSw; (try dsimp only at hSw); go_simp
                        simp only [Act.put, List.setIfInBounds_toArray, List.set_cons_zero, List.set_cons_succ]
                        refine wpAnyH_take (i := 1) (oi := ⟨some 97, _, _, _, _, _⟩) (v := .int .i64 1) rfl (by kernel_rfl) (by kernel_rfl) (by kernel_rfl) (fun _ _ _ h => h) (Or.inl ⟨by rfl, ?_⟩) (by assumption) ?_
                        · intro w hSw; (try dsimp only at hSw); go_simp
                        simp only [Act.put, List.setIfInBounds_toArray, List.set_cons_zero, List.set_cons_succ]
                        refine wpAnyH_take (i := 2) (oi := ⟨some 98, _, _, _, _, _⟩) (v := .pointer (some ⟨rb, 0, none⟩)) rfl (by kernel_rfl) (by kernel_rfl) (by kernel_rfl) (fun _ _ _ h => h) (Or.inl ⟨by rfl, ?_⟩) (by assumption) ?_
                        · intro w hSw; (try dsimp only at hSw); go_simp
                        simp only [Act.put, List.setIfInBounds_toArray, List.set_cons_zero, List.set_cons_succ]
                        refine wpAnyH_take (i := 3) (oi := ⟨some 99, _, _, _, _, _⟩) (v := .int .i64 1) rfl (by kernel_rfl) (by kernel_rfl) (by kernel_rfl) (fun _ _ _ h => h) (Or.inl ⟨by rfl, ?_⟩) (by assumption) ?_
                        · intro w hSw; (try dsimp only at hSw); go_simp
                        simp only [Act.put, List.setIfInBounds_toArray, List.set_cons_zero, List.set_cons_succ]
                        refine wpAnyH_take (i := 4) (oi := ⟨some 100, _, _, _, _, _⟩) (v := .pointer (some ⟨rb, 0, none⟩)) rfl (by kernel_rfl) (by kernel_rfl) (by kernel_rfl) (fun _ _ _ h => h) (Or.inl ⟨by rfl, ?_⟩) (by assumption) ?_
                        · intro w hSw; (try dsimp only at hSw); go_simp
                        simp only [Act.put, List.setIfInBounds_toArray, List.set_cons_zero, List.set_cons_succ]
                        refine wpAnyH_take (i := 5) (oi := ⟨some 101, _, _, _, _, _⟩) (v := .pointer (some ⟨rb, 2, none⟩)) rfl (by kernel_rfl) (by kernel_rfl) (by kernel_rfl) (fun _ _ _ h => h) (Or.inl ⟨by rfl, ?_⟩) (by assumption) ?_
                        · intro w hSw; (try dsimp only at hSw); go_simp
                        simp only [Act.put, List.setIfInBounds_toArray, List.set_cons_zero, List.set_cons_succ]
                        refine wpAnyH_take (i := 6) (oi := ⟨some 102, _, _, _, _, _⟩) (v := .pointer (some ⟨rb, 3, none⟩)) rfl (by kernel_rfl) (by kernel_rfl) (by kernel_rfl) (fun _ _ _ h => h) (Or.inl ⟨by rfl, ?_⟩) (by assumption) ?_
                        · intro w hSw; (try dsimp only at hSw); go_simp
                        simp only [Act.put, List.setIfInBounds_toArray, List.set_cons_zero, List.set_cons_succ]
                        refine wpAnyH_take (i := 8) (oi := ⟨some 104, _, _, _, _, _⟩) (v := .slice (some a) n c) rfl (by kernel_rfl) (by kernel_rfl) (by kernel_rfl) (fun _ _ _ h => h) (Or.inl ⟨by rfl, ?_⟩) (by assumption) ?_
                        · intro w hSw; (try dsimp only at hSw); go_simp
                        simp only [Act.put, List.setIfInBounds_toArray, List.set_cons_zero, List.set_cons_succ]
                        refine wpAnyH_take (i := 9) (oi := ⟨some 105, _, _, _, _, _⟩) (v := .int .i64 (k : Int)) rfl (by kernel_rfl) (by kernel_rfl) (by kernel_rfl) (fun _ _ _ h => h) (Or.inl ⟨by rfl, ?_⟩) (by assumption) ?_
                        · intro w hSw; (try dsimp only at hSw); go_simp
                        simp only [Act.put, List.setIfInBounds_toArray, List.set_cons_zero, List.set_cons_succ]
                        refine wpAnyH_take (i := 10) (oi := ⟨some 106, _, _, _, _, _⟩) (v := .pointer (some (a.add (k * 4)))) rfl (by kernel_rfl) (by kernel_rfl) (by kernel_rfl) (fun _ _ _ h => h) (Or.inl ⟨by rfl, ?_⟩) (by assumption) ?_
                        · intro w hSw; (try dsimp only at hSw); go_simp
                        simp only [Act.put, List.setIfInBounds_toArray, List.set_cons_zero, List.set_cons_succ]
                        refine wpAnyH_take (i := 11) (oi := ⟨some 107, _, _, _, _, _⟩) (v := .pointer (some ⟨(a.add (k * 4)).block, (a.add (k * 4)).off + 3, none⟩)) rfl (by kernel_rfl) (by kernel_rfl) (by kernel_rfl) (fun _ _ _ h => h) (Or.inl ⟨by rfl, ?_⟩) (by assumption) ?_
                        · intro w hSw; (try dsimp only at hSw); go_simp
                        simp only [Act.put, List.setIfInBounds_toArray, List.set_cons_zero, List.set_cons_succ]
                        refine wpAnyH_take (i := 15) (oi := ⟨some 111, _, _, _, _, _⟩) (v := .pointer (some ⟨rb, 0, none⟩)) rfl (by kernel_rfl) (by kernel_rfl) (by kernel_rfl) (fun _ _ _ h => h) (Or.inl ⟨by rfl, ?_⟩) (by assumption) ?_
                        · intro w hSw; (try dsimp only at hSw); go_simp
                        simp only [Act.put, List.setIfInBounds_toArray, List.set_cons_zero, List.set_cons_succ]
                        refine wpAnyH_take (i := 16) (oi := ⟨some 112, _, _, _, _, _⟩) (v := .pointer (some ⟨rb, 2, none⟩)) rfl (by kernel_rfl) (by kernel_rfl) (by kernel_rfl) (fun _ _ _ h => h) (Or.inl ⟨by rfl, ?_⟩) (by assumption) ?_
                        · intro w hSw; (try dsimp only at hSw); go_simp
                        simp only [Act.put, List.setIfInBounds_toArray, List.set_cons_zero, List.set_cons_succ]
                        refine wpAnyH_ready (rs := [7, 12]) (by kernel_rfl) (by simp) (AllReadyH.cons (o := ⟨some 103, _, _, _, _, _⟩) rfl (fun K hK => ?_) (AllReadyH.cons (o := ⟨some 108, _, _, _, _, _⟩) rfl (fun K hK => ?_) AllReadyH.nil))
                        · go_simp
                          refine hK.out _ _ trivial (fun _ => ?_)
                          clear hK K
                          refine wpAnyH_ready (rs := [12]) (by kernel_rfl) (by simp) (AllReadyH.cons (o := ⟨some 108, _, _, _, _, _⟩) rfl (fun K hK => ?_) AllReadyH.nil)
                          go_simp
                          refine hK.out _ _ trivial (fun _ => ?_)
                          clear hK K
                          refine wpAnyH_ready (rs := [13]) (by kernel_rfl) (by simp) (AllReadyH.cons (o := ⟨some 109, _, _, _, _, _⟩) rfl (fun K hK => ?_) AllReadyH.nil)
                          go_simp
                          refine hK.out _ _ trivial (fun _ => ?_)
                          clear hK K
                          refine wpAnyH_ready (rs := [14]) (by kernel_rfl) (by simp) (AllReadyH.cons (o := ⟨some 110, _, _, _, _, _⟩) rfl (fun K hK => ?_) AllReadyH.nil)
                          refine step_append_hasN rfl (.tmp 103) (.tmp 109) 27 rfl 9 tx_elem (by omega) Try.underlying27 rfl (own_belowN Ho.out hba) rfl (Has.below (Has.lit w7 #[.string os] 9) (by have h9 := (Below.refl (w7.alloc (.cells #[.string os] 9)).heap.size (w7.alloc (.cells #[.string os] 9))).drew; rwa [World.size_alloc] at h9)) (fun u hu => by simp at hu; subst hu; rfl) (by have := HL.out.2; simp only [maxLen]; omega) (by have := HL.out.2; omega) (Nat.le_trans R7.out.1.lo hba.size) ?_
                          intro vA wA oA gA zA
                          obtain ⟨AA, cA, rfl, -, -, -⟩ := own_sliceN oA
                          have hbx := (R7.out.1.box.below hba R7.out.1.box.lt).grown gA (fun e => own_no_box Ho.out R7.out.1.box (by decide) rb e.symm rfl)
                          have c7 : wA.cell? ⟨rb, 3, none⟩ = some (.slice Au L cu) := (hbx.cell 3).trans (congrArg some Hu.out)
                          have f7 := hbx.frozen 3
                          have HF : Hid (∃ (g : Nat → Nat) (u : Nat → Value) (E : Es) (X : Xs) (N : List NEn) (d : Nat), RSt (wA.setCell ⟨rb, 3, none⟩ (.slice AA (L + 1) cA)) w1.heap.size rb sb mb (k + 1) g u E X N d w1) := Lib.hid (by
                            have h9 := R7.out.1.app (i := 3) (x := os) (by omega) hba (by rw [HL.out.1]; exact oA) (by rw [Hu.out]; exact gA) (by rw [Hu.out]; exact zA)
                            have e1 : ((E 1).send os).1 = E1 := by rw [HE.out]
                            refine ⟨_, _, _, _, _, _, Hst.out.send (q := 1) (by omega) Hos.out (by rw [HE.out]) (by rw [e1]; exact h9.1) (R7.out.2.trans h9.2)⟩)
                          clear oA gA zA hbx
                          refine hK.out _ _ trivial (fun _ => ?_)
                          clear hK K
                          refine wpAnyH_take (i := 17) (oi := ⟨some 113, _, _, _, _, _⟩) (v := .pointer (some ⟨rb, 3, none⟩)) rfl (by kernel_rfl) (by kernel_rfl) (by kernel_rfl) (fun _ _ _ h => h) (Or.inl ⟨by rfl, ?_⟩) (by assumption) ?_
                          · intro w hSw; (try dsimp only at hSw); go_simp
                          simp only [Act.put, List.setIfInBounds_toArray, List.set_cons_zero, List.set_cons_succ]
                          refine wpAnyH_ready (rs := [18]) (by kernel_rfl) (by simp) (AllReadyH.cons (o := ⟨none, _, _, _, _, _⟩) rfl (fun K hK => ?_) AllReadyH.nil)
                          go_simp
                          refine hK.out _ _ trivial (fun _ => ?_)
                          clear hK K
                          refine wpAnyH_done (by kernel_rfl) ?_ _
                          clear c7 f7
                          go_wp2
                          go_meet
                          exact ⟨rfl, HF⟩
                        · go_simp
                          refine hK.out _ _ trivial (fun _ => ?_)
                          clear hK K
                          refine wpAnyH_ready (rs := [7, 13]) (by kernel_rfl) (by simp) (AllReadyH.cons (o := ⟨some 103, _, _, _, _, _⟩) rfl (fun K hK => ?_) (AllReadyH.cons (o := ⟨some 109, _, _, _, _, _⟩) rfl (fun K hK => ?_) AllReadyH.nil))
                          · go_simp
                            refine hK.out _ _ trivial (fun _ => ?_)
                            clear hK K
                            refine wpAnyH_ready (rs := [13]) (by kernel_rfl) (by simp) (AllReadyH.cons (o := ⟨some 109, _, _, _, _, _⟩) rfl (fun K hK => ?_) AllReadyH.nil)
                            go_simp
                            refine hK.out _ _ trivial (fun _ => ?_)
                            clear hK K
                            refine wpAnyH_ready (rs := [14]) (by kernel_rfl) (by simp) (AllReadyH.cons (o := ⟨some 110, _, _, _, _, _⟩) rfl (fun K hK => ?_) AllReadyH.nil)
                            refine step_append_hasN rfl (.tmp 103) (.tmp 109) 27 rfl 9 tx_elem (by omega) Try.underlying27 rfl (own_belowN Ho.out hba) rfl (Has.below (Has.lit w7 #[.string os] 9) (by have h9 := (Below.refl (w7.alloc (.cells #[.string os] 9)).heap.size (w7.alloc (.cells #[.string os] 9))).drew; rwa [World.size_alloc] at h9)) (fun u hu => by simp at hu; subst hu; rfl) (by have := HL.out.2; simp only [maxLen]; omega) (by have := HL.out.2; omega) (Nat.le_trans R7.out.1.lo hba.size) ?_
                            intro vA wA oA gA zA
                            obtain ⟨AA, cA, rfl, -, -, -⟩ := own_sliceN oA
                            have hbx := (R7.out.1.box.below hba R7.out.1.box.lt).grown gA (fun e => own_no_box Ho.out R7.out.1.box (by decide) rb e.symm rfl)
                            have c7 : wA.cell? ⟨rb, 3, none⟩ = some (.slice Au L cu) := (hbx.cell 3).trans (congrArg some Hu.out)
                            have f7 := hbx.frozen 3
                            have HF : Hid (∃ (g : Nat → Nat) (u : Nat → Value) (E : Es) (X : Xs) (N : List NEn) (d : Nat), RSt (wA.setCell ⟨rb, 3, none⟩ (.slice AA (L + 1) cA)) w1.heap.size rb sb mb (k + 1) g u E X N d w1) := Lib.hid (by
                              have h9 := R7.out.1.app (i := 3) (x := os) (by omega) hba (by rw [HL.out.1]; exact oA) (by rw [Hu.out]; exact gA) (by rw [Hu.out]; exact zA)
                              have e1 : ((E 1).send os).1 = E1 := by rw [HE.out]
                              refine ⟨_, _, _, _, _, _, Hst.out.send (q := 1) (by omega) Hos.out (by rw [HE.out]) (by rw [e1]; exact h9.1) (R7.out.2.trans h9.2)⟩)
                            clear oA gA zA hbx
                            refine hK.out _ _ trivial (fun _ => ?_)
                            clear hK K
                            refine wpAnyH_take (i := 17) (oi := ⟨some 113, _, _, _, _, _⟩) (v := .pointer (some ⟨rb, 3, none⟩)) rfl (by kernel_rfl) (by kernel_rfl) (by kernel_rfl) (fun _ _ _ h => h) (Or.inl ⟨by rfl, ?_⟩) (by assumption) ?_
                            · intro w hSw; (try dsimp only at hSw); go_simp
                            simp only [Act.put, List.setIfInBounds_toArray, List.set_cons_zero, List.set_cons_succ]
                            refine wpAnyH_ready (rs := [18]) (by kernel_rfl) (by simp) (AllReadyH.cons (o := ⟨none, _, _, _, _, _⟩) rfl (fun K hK => ?_) AllReadyH.nil)
                            go_simp
                            refine hK.out _ _ trivial (fun _ => ?_)
                            clear hK K
                            refine wpAnyH_done (by kernel_rfl) ?_ _
                            clear c7 f7
                            go_wp2
                            go_meet
                            exact ⟨rfl, HF⟩
                          · go_simp
                            refine hK.out _ _ trivial (fun _ => ?_)
                            clear hK K
                            refine wpAnyH_ready (rs := [7]) (by kernel_rfl) (by simp) (AllReadyH.cons (o := ⟨some 103, _, _, _, _, _⟩) rfl (fun K hK => ?_) AllReadyH.nil)
                            go_simp
                            refine hK.out _ _ trivial (fun _ => ?_)
                            clear hK K
                            refine wpAnyH_ready (rs := [14]) (by kernel_rfl) (by simp) (AllReadyH.cons (o := ⟨some 110, _, _, _, _, _⟩) rfl (fun K hK => ?_) AllReadyH.nil)
                            refine step_append_hasN rfl (.tmp 103) (.tmp 109) 27 rfl 9 tx_elem (by omega) Try.underlying27 rfl (own_belowN Ho.out hba) rfl (Has.below (Has.lit w7 #[.string os] 9) (by have h9 := (Below.refl (w7.alloc (.cells #[.string os] 9)).heap.size (w7.alloc (.cells #[.string os] 9))).drew; rwa [World.size_alloc] at h9)) (fun u hu => by simp at hu; subst hu; rfl) (by have := HL.out.2; simp only [maxLen]; omega) (by have := HL.out.2; omega) (Nat.le_trans R7.out.1.lo hba.size) ?_
                            intro vA wA oA gA zA
                            obtain ⟨AA, cA, rfl, -, -, -⟩ := own_sliceN oA
                            have hbx := (R7.out.1.box.below hba R7.out.1.box.lt).grown gA (fun e => own_no_box Ho.out R7.out.1.box (by decide) rb e.symm rfl)
                            have c7 : wA.cell? ⟨rb, 3, none⟩ = some (.slice Au L cu) := (hbx.cell 3).trans (congrArg some Hu.out)
                            have f7 := hbx.frozen 3
                            have HF : Hid (∃ (g : Nat → Nat) (u : Nat → Value) (E : Es) (X : Xs) (N : List NEn) (d : Nat), RSt (wA.setCell ⟨rb, 3, none⟩ (.slice AA (L + 1) cA)) w1.heap.size rb sb mb (k + 1) g u E X N d w1) := Lib.hid (by
                              have h9 := R7.out.1.app (i := 3) (x := os) (by omega) hba (by rw [HL.out.1]; exact oA) (by rw [Hu.out]; exact gA) (by rw [Hu.out]; exact zA)
                              have e1 : ((E 1).send os).1 = E1 := by rw [HE.out]
                              refine ⟨_, _, _, _, _, _, Hst.out.send (q := 1) (by omega) Hos.out (by rw [HE.out]) (by rw [e1]; exact h9.1) (R7.out.2.trans h9.2)⟩)
                            clear oA gA zA hbx
                            refine hK.out _ _ trivial (fun _ => ?_)
                            clear hK K
                            refine wpAnyH_take (i := 17) (oi := ⟨some 113, _, _, _, _, _⟩) (v := .pointer (some ⟨rb, 3, none⟩)) rfl (by kernel_rfl) (by kernel_rfl) (by kernel_rfl) (fun _ _ _ h => h) (Or.inl ⟨by rfl, ?_⟩) (by assumption) ?_
                            · intro w hSw; (try dsimp only at hSw); go_simp
                            simp only [Act.put, List.setIfInBounds_toArray, List.set_cons_zero, List.set_cons_succ]
                            refine wpAnyH_ready (rs := [18]) (by kernel_rfl) (by simp) (AllReadyH.cons (o := ⟨none, _, _, _, _, _⟩) rfl (fun K hK => ?_) AllReadyH.nil)
                            go_simp
                            refine hK.out _ _ trivial (fun _ => ?_)
                            clear hK K
                            refine wpAnyH_done (by kernel_rfl) ?_ _
                            clear c7 f7
                            go_wp2
                            go_meet
                            exact ⟨rfl, HF⟩
                      · have e9 : ((a2 : Int) == 0) = false := by simpa using h0
                        have HF : Hid (∃ (g : Nat → Nat) (u : Nat → Value) (E : Es) (X : Xs) (N : List NEn) (d : Nat), RSt w7 w1.heap.size rb sb mb (k + 1) g u E X N d w1) := Lib.hid (by
                          have e1 : ((E 1).send os).1 = E1 := by rw [HE.out]
                          exact ⟨_, _, _, _, _, _, Hst.out.sendNo (q := 1) (x := os) (by rw [HE.out]; exact h0) (by rw [e1]; exact R7.out.1) R7.out.2⟩)
                        clear h0
                        go_wp2
                        go_meet
                        exact ⟨rfl, HF⟩
            have e1 : (ok == 1) = false := by simpa using hk1
            by_cases hk2 : ok = 2
            · as_aux_lemma =>
                subst hk2
                have HP := Lib.hid (Hst.out.postCall Hk.out hq2 (n := min on 20) (by omega))
                clear d0 d3
                go_wp2_with fail
                refine HP.out.mono ?_
                rintro e w7 ⟨rfl, HF0⟩
                have HF := Lib.hid HF0
                clear HF0 HP
                go_wp2
                go_meet
                exact ⟨rfl, HF⟩
            have e2 : (ok == 2) = false := by simpa using hk2
            by_cases hk3 : ok = 3
            · as_aux_lemma =>
                subst hk3
                have HP := Lib.hid (tell_any Hst.out.road (by have := Hst.out.dk; have := Hn.out; omega) (by have := Hst.out.few; have := Hn.out; omega) hq2 (by have := (Hst.out.sl hq2).2.1; have := Hn.out; omega))
                clear d0 d2 d3
                go_wp2_with fail
                refine HP.out.mono ?_
                rintro e w7 ⟨rfl, en, hL, r7, b7⟩
                have HF : Hid (∃ (g : Nat → Nat) (u : Nat → Value) (E : Es) (X : Xs) (N : List NEn) (d : Nat), RSt w7 w1.heap.size rb sb mb (k + 1) g u E X N d w1) := Lib.hid ⟨_, _, _, _, _, _, Hst.out.tell Hq2.out hL r7 (Hst.out.bel.trans b7)⟩
                clear r7 hL b7 HP
                go_wp2
                go_meet
                exact ⟨rfl, HF⟩
            have e3 : (ok == 3) = false := by simpa using hk3
            by_cases hk4 : ok = 4
            · as_aux_lemma =>
                subst hk4
                go_wp2_with fail
                refine (netDeliver_any Hst.out.road.net kn Hkn.out).mono ?_
                rintro e w7 (⟨hg, rfl, n7, b7⟩ | ⟨e0, hg, rfl, n7, -, k7⟩)
                · have HF : Hid (∃ (g : Nat → Nat) (u : Nat → Value) (E : Es) (X : Xs) (N : List NEn) (d : Nat), RSt (w7.alloc (.cells #[.int .i64 0, .int .i64 0, .int .i64 0, .int .i64 0, .int .i64 0, .int .i64 0, .int .i64 0, .string ⟨#[]⟩, .string ⟨#[]⟩, .slice none 0 0, .slice none 0 0, .int .i64 0, .bool false, .string ⟨#[]⟩] 69)) w1.heap.size rb sb mb (k + 1) g u E X N d w1) := Lib.hid ⟨_, _, _, _, _, _, ((Hst.out.below b7).below (below_box (.cells #[.int .i64 0, .int .i64 0, .int .i64 0, .int .i64 0, .int .i64 0, .int .i64 0, .int .i64 0, .string ⟨#[]⟩, .string ⟨#[]⟩, .slice none 0 0, .slice none 0 0, .int .i64 0, .bool false, .string ⟨#[]⟩] 69))).next⟩
                  clear hg n7 b7 d0 d2 d3
                  go_wp2
                  go_meet
                  exact ⟨rfl, HF⟩
                · have HLok := Lib.hid (Hst.out.inv.ok e0.L (List.mem_map.2 ⟨e0, (getN_some hg).1, rfl⟩))
                  obtain ⟨t, a, ht, hcase⟩ := HLok.out
                  have HXl : Hid ((X (4 + t)).length ≤ 1000000) := Lib.hid (by
                    have hD := Hst.out.inv.dir (1 - t) (by omega)
                    rw [show 1 - (1 - t) = t from by omega] at hD
                    have := hD.mle
                    have := Hst.out.lens (i := 1 - t) (by omega)
                    have := Hn.out
                    omega)
                  clear hg
                  rcases hcase with ⟨hL, -, -⟩ | ⟨b, hL, -, -⟩
                  · obtain ⟨n0, Ap, cp, Ai, ci, L⟩ := e0
                    simp only at hL n7 k7 HLok ⊢
                    subst hL
                    simp only [lR, List.length_nil] at n7 ⊢
                    obtain ⟨w8, hw8⟩ : ∃ w8, w7.alloc (.cells #[.int .i64 2, .int .i64 0, .int .i64 (t : Int), .int .i64 a, .int .i64 0, .int .i64 0, .int .i64 0, .string ⟨#[]⟩, .string ⟨#[]⟩, .slice Ap 0 cp, .slice Ai 0 ci, .int .i64 0, .bool false, .string ⟨#[]⟩] 69) = w8 := ⟨_, rfl⟩
                    have b8 : Below w7.heap.size w7 w8 := hw8 ▸ below_box _
                    have r7 := Hst.out.road.atNet n7 k7
                    have R8 := Lib.hid (And.intro (r7.1.below b8) (Hst.out.bel.trans (r7.2.trans (b8.mono r7.1.lo))))
                    have Hw8 := Lib.hid hw8
                    clear n7 k7 r7 b8 hw8 d0 d2 d3
                    go_wp2_with fail
                    rw [Hw8.out]
                    refine (bring2_any R8.out.1 ht a ⟨#[]⟩ Ap cp Ai ci).mono ?_
                    rintro e w9 ⟨rfl, u9, r9, b9, -⟩
                    have HF : Hid (∃ (g : Nat → Nat) (u : Nat → Value) (E : Es) (X : Xs) (N : List NEn) (d : Nat), RSt w9 w1.heap.size rb sb mb (k + 1) g u E X N d w1) := Lib.hid ⟨_, _, _, _, _, _, Hst.out.bring HLok.out (kn := kn) (by rw [bringP2]; exact r9) (R8.out.2.trans b9)⟩
                    clear r9 b9
                    go_wp2
                    go_meet
                    exact ⟨rfl, HF⟩
                  · obtain ⟨n0, Ap, cp, Ai, ci, L⟩ := e0
                    simp only at hL n7 k7 HLok ⊢
                    subst hL
                    simp only [lR, List.length_nil] at n7 ⊢
                    obtain ⟨w8, hw8⟩ : ∃ w8, w7.alloc (.cells #[.int .i64 1, .int .i64 0, .int .i64 (t : Int), .int .i64 a, .int .i64 0, .int .i64 0, .int .i64 0, .string ⟨#[]⟩, .string ⟨#[]⟩, .slice Ap 0 cp, .slice Ai 0 ci, .int .i64 0, .bool false, .string b] 69) = w8 := ⟨_, rfl⟩
                    have b8 : Below w7.heap.size w7 w8 := hw8 ▸ below_box _
                    have r7 := Hst.out.road.atNet n7 k7
                    have R8 := Lib.hid (And.intro (r7.1.below b8) (Hst.out.bel.trans (r7.2.trans (b8.mono r7.1.lo))))
                    have Hw8 := Lib.hid hw8
                    clear n7 k7 r7 b8 hw8 d0 d2 d3
                    go_wp2_with fail
                    rw [Hw8.out]
                    refine (bring1_any R8.out.1 ht a b Ap cp Ai ci HXl.out).mono ?_
                    rintro e w9 ⟨rfl, u9, r9, b9, -⟩
                    have HF : Hid (∃ (g : Nat → Nat) (u : Nat → Value) (E : Es) (X : Xs) (N : List NEn) (d : Nat), RSt w9 w1.heap.size rb sb mb (k + 1) g u E X N d w1) := Lib.hid ⟨_, _, _, _, _, _, Hst.out.bring HLok.out (kn := kn) (by rw [bringP1]; exact r9) (R8.out.2.trans b9)⟩
                    clear r9 b9
                    go_wp2
                    go_meet
                    exact ⟨rfl, HF⟩
            have e4 : (ok == 4) = false := by simpa using hk4
            by_cases hk5 : ok = 5
            · as_aux_lemma =>
                subst hk5
                go_wp2_with fail
                refine (netDrop_any Hst.out.road.net kn Hkn.out).mono ?_
                rintro e w7 (⟨hg, rfl, n7, b7⟩ | ⟨e0, hg, rfl, n7, k7⟩)
                · have HF : Hid (∃ (g : Nat → Nat) (u : Nat → Value) (E : Es) (X : Xs) (N : List NEn) (d : Nat), RSt w7 w1.heap.size rb sb mb (k + 1) g u E X N d w1) := Lib.hid ⟨_, _, _, _, _, _, (Hst.out.below b7).next⟩
                  clear hg n7 b7 d0 d2 d3
                  go_wp2
                  go_meet
                  exact ⟨rfl, HF⟩
                · have r7 := Hst.out.road.atNet n7 k7
                  have HF : Hid (∃ (g : Nat → Nat) (u : Nat → Value) (E : Es) (X : Xs) (N : List NEn) (d : Nat), RSt w7 w1.heap.size rb sb mb (k + 1) g u E X N d w1) := Lib.hid ⟨_, _, _, _, _, _, Hst.out.del kn r7.1 (Hst.out.bel.trans r7.2)⟩
                  clear hg n7 k7 r7 d0 d2 d3
                  go_wp2
                  go_meet
                  exact ⟨rfl, HF⟩
            have e5 : (ok == 5) = false := by simpa using hk5
            by_cases hk6 : ok = 6
            · as_aux_lemma =>
                subst hk6
                go_wp2_with fail
                refine (netLen_any Hst.out.road.net).mono ?_
                rintro e w7 ⟨rfl, b7⟩
                have Hs7 := Lib.hid (Hst.out.below b7)
                have p7 := Hs7.out.road.cells.2.2.2.2.2.2
                obtain ⟨nl, hnl⟩ : ∃ nl, N.length = nl := ⟨_, rfl⟩
                rw [hnl]
                clear b7 hnl d0 d2 d3
                by_cases hl : nl < 1000
                · have e9 : decide ((nl : Int) < 1000) = true := decide_eq_true (by omega)
                  have HT := Lib.hid (netTwice_any Hs7.out.road.net Hs7.out.road.lo (by have := Hst.out.dk; have := Hn.out; omega) kn Hkn.out)
                  clear hl
                  go_wp2_with fail
                  refine HT.out.mono ?_
                  rintro e w8 (⟨hg, rfl, n8, b8⟩ | ⟨e0, hg, hA⟩)
                  · have HF : Hid (∃ (g : Nat → Nat) (u : Nat → Value) (E : Es) (X : Xs) (N : List NEn) (d : Nat), RSt w8 w1.heap.size rb sb mb (k + 1) g u E X N d w1) := Lib.hid ⟨_, _, _, _, _, _, (Hs7.out.below b8).next⟩
                    clear hg n8 b8 HT
                    go_wp2
                    go_meet
                    exact ⟨rfl, HF⟩
                  · rcases hA with ⟨-, rfl, n8, b8⟩ | ⟨-, en, -, hL, rfl, n8, -, k8⟩
                    · have HF : Hid (∃ (g : Nat → Nat) (u : Nat → Value) (E : Es) (X : Xs) (N : List NEn) (d : Nat), RSt w8 w1.heap.size rb sb mb (k + 1) g u E X N d w1) := Lib.hid ⟨_, _, _, _, _, _, (Hs7.out.below b8).next⟩
                      clear hg n8 b8 HT
                      go_wp2
                      go_meet
                      exact ⟨rfl, HF⟩
                    · have r8 := Hs7.out.road.atNet n8 k8
                      have HF : Hid (∃ (g : Nat → Nat) (u : Nat → Value) (E : Es) (X : Xs) (N : List NEn) (d : Nat), RSt w8 w1.heap.size rb sb mb (k + 1) g u E X N d w1) := Lib.hid ⟨_, _, _, _, _, _, Hs7.out.twice (getN_some hg).1 hL r8.1 (Hs7.out.bel.trans r8.2)⟩
                      clear hg n8 k8 r8 hL HT
                      go_wp2
                      go_meet
                      exact ⟨rfl, HF⟩
                · have e9 : decide ((nl : Int) < 1000) = false := decide_eq_false (by omega)
                  have HF : Hid (∃ (g : Nat → Nat) (u : Nat → Value) (E : Es) (X : Xs) (N : List NEn) (d : Nat), RSt w7 w1.heap.size rb sb mb (k + 1) g u E X N d w1) := Lib.hid ⟨_, _, _, _, _, _, Hs7.out.next⟩
                  clear hl p7
                  go_wp2
                  go_meet
                  exact ⟨rfl, HF⟩
            have e6 : (ok == 6) = false := by simpa using hk6
            by_cases hk7 : ok = 7
            · as_aux_lemma =>
                subst hk7
                rcases (show q = 0 ∨ q = 1 by omega) with rfl | rfl
                · have Hg := Lib.hid (Hst.out.road.ends 0 (by omega)).good
                  have Hsh : Hid (Short (E 0)) := Lib.hid fun x hx => Nat.le_trans ((Hst.out.sl (i := 0) (by omega)).2.2 x hx) (by omega)
                  obtain ⟨Z, hZ⟩ : ∃ Z : ByteArray, (⟨(E 0).save.toArray⟩ : ByteArray) = Z := ⟨_, rfl⟩
                  have HZl : Hid (loadT Z.data.toList = (E 0, 0)) := Lib.hid (by rw [← hZ]; exact loadT_save Hg.out)
                  have HZs : Hid (Z.size ≤ 1000000) := Lib.hid (by rw [← hZ]; exact save_size Hsh.out Hg.out)
                  have HZ0 := Lib.hid hZ
                  clear hZ d0 d2 d3
                  go_wp2_with fail
                  refine (sesSave_any (Hst.out.road.ends 0 (by omega)) (Hsh.out.body Hg.out)).mono ?_
                  rw [HZ0.out]
                  rintro e w7 ⟨rfl, b7⟩
                  have Hs7 := Lib.hid (Hst.out.below b7)
                  clear b7 p0 p1
                  go_wp2_with fail
                  refine (sesLoad_any Z w7 HZs.out).mono ?_
                  unfold LoadP
                  rw [HZl.out]
                  rintro e w8 (⟨h9, -⟩ | ⟨-, g8, v8, rfl, h8, b8⟩)
                  · exact absurd rfl h9
                  have r8 := Hs7.out.road.newEnd (i := 0) (by omega) h8 b8
                  have r7 := Hs7.out.road.below b8
                  have hb8 : Below w1.heap.size w1 w8 := Hs7.out.bel.trans (b8.mono Hs7.out.road.lo)
                  have s0 : w8.cell? ⟨rb, 0, none⟩ = some (.pointer (some ⟨g 0, 0, none⟩)) := r7.box.cell 0
                  have f0 : w8.frozen? ⟨rb, 0, none⟩ = false := r7.box.frozen 0
                  have HF : Hid (∃ (g : Nat → Nat) (u : Nat → Value) (E : Es) (X : Xs) (N : List NEn) (d : Nat), RSt (w8.setCell ⟨rb, 0, none⟩ (.pointer (some ⟨g8, 0, none⟩))) w1.heap.size rb sb mb (k + 1) g u E X N d w1) := Lib.hid (by
                    have r9 := r8.1
                    rw [upd_id] at r9
                    exact ⟨_, _, _, _, _, _, ⟨r9, Hst.out.inv, by have := Hst.out.few; omega, by have := Hst.out.dk; omega, Hst.out.short, Hs7.out.bel.trans r8.2⟩⟩)
                  clear h8 b8 r8 r7 hb8
                  go_wp2
                  go_meet
                  exact ⟨rfl, HF⟩
                · have Hg := Lib.hid (Hst.out.road.ends 1 (by omega)).good
                  have Hsh : Hid (Short (E 1)) := Lib.hid fun x hx => Nat.le_trans ((Hst.out.sl (i := 1) (by omega)).2.2 x hx) (by omega)
                  obtain ⟨Z, hZ⟩ : ∃ Z : ByteArray, (⟨(E 1).save.toArray⟩ : ByteArray) = Z := ⟨_, rfl⟩
                  have HZl : Hid (loadT Z.data.toList = (E 1, 0)) := Lib.hid (by rw [← hZ]; exact loadT_save Hg.out)
                  have HZs : Hid (Z.size ≤ 1000000) := Lib.hid (by rw [← hZ]; exact save_size Hsh.out Hg.out)
                  have HZ0 := Lib.hid hZ
                  clear hZ d0 d2 d3
                  go_wp2_with fail
                  refine (sesSave_any (Hst.out.road.ends 1 (by omega)) (Hsh.out.body Hg.out)).mono ?_
                  rw [HZ0.out]
                  rintro e w7 ⟨rfl, b7⟩
                  have Hs7 := Lib.hid (Hst.out.below b7)
                  clear b7 p0 p1
                  go_wp2_with fail
                  refine (sesLoad_any Z w7 HZs.out).mono ?_
                  unfold LoadP
                  rw [HZl.out]
                  rintro e w8 (⟨h9, -⟩ | ⟨-, g8, v8, rfl, h8, b8⟩)
                  · exact absurd rfl h9
                  have r8 := Hs7.out.road.newEnd (i := 1) (by omega) h8 b8
                  have r7 := Hs7.out.road.below b8
                  have hb8 : Below w1.heap.size w1 w8 := Hs7.out.bel.trans (b8.mono Hs7.out.road.lo)
                  have s0 : w8.cell? ⟨rb, 1, none⟩ = some (.pointer (some ⟨g 1, 0, none⟩)) := r7.box.cell 1
                  have f0 : w8.frozen? ⟨rb, 1, none⟩ = false := r7.box.frozen 1
                  have HF : Hid (∃ (g : Nat → Nat) (u : Nat → Value) (E : Es) (X : Xs) (N : List NEn) (d : Nat), RSt (w8.setCell ⟨rb, 1, none⟩ (.pointer (some ⟨g8, 0, none⟩))) w1.heap.size rb sb mb (k + 1) g u E X N d w1) := Lib.hid (by
                    have r9 := r8.1
                    rw [upd_id] at r9
                    exact ⟨_, _, _, _, _, _, ⟨r9, Hst.out.inv, by have := Hst.out.few; omega, by have := Hst.out.dk; omega, Hst.out.short, Hs7.out.bel.trans r8.2⟩⟩)
                  clear h8 b8 r8 r7 hb8
                  go_wp2
                  go_meet
                  exact ⟨rfl, HF⟩
            have e7 : (ok == 7) = false := by simpa using hk7
            clear hk1 hk2 hk3 hk4 hk5 hk6 hk7
            have HF : Hid (∃ (g : Nat → Nat) (u : Nat → Value) (E : Es) (X : Xs) (N : List NEn) (d : Nat), RSt wc w1.heap.size rb sb mb (k + 1) g u E X N d w1) := Lib.hid ⟨_, _, _, _, _, _, Hst.out.next⟩
            go_wp2
            go_meet
            exact ⟨rfl, HF⟩
          case rest =>
            obtain ⟨rfl, HX⟩ := hcut
            clear Hst d0 d2 d3 Hh6 HM HR
            obtain ⟨g9, u9, E9, X9, N9, d9, h9⟩ := HX.out
            have H9 := Lib.hid h9
            clear h9 HX
            go_wp2_with fail
            refine (H9.out.begins (by have := Hk.out; omega)).mono ?_
            rintro e w10 ⟨rfl, b10⟩
            have H10 := Lib.hid (H9.out.below b10)
            have hk8 : k < 200 := Hk.out
            clear b10 H9
            go_wp2
            go_roundw
            case rel => exact ⟨k + 1, _, _, _, _, _, _, by omega, by go_num, H10⟩
            case measure => simp [intOf]; omega
      · obtain rfl : k = n := by omega
        have HF := HR
        clear HR
        as_aux_lemma =>
          have HT : Hid (∃ (g : Nat → Nat) (u : Nat → Value) (E : Es) (X : Xs) (N : List NEn) (d : Nat), TSt wr w1.heap.size rb sb mb 0 g u E X N d w1) := Lib.hid ⟨_, _, _, _, _, _, HF.out.calm Hn.out⟩
          clear HF
          generalize wr = wa at *
          clear g u E X N d
          go_wp2
          go_loopw [14] (fun iv wr => ∃ t : Nat, t ≤ 3 ∧ iv = .int .i64 (t : Int) ∧ Hid (∃ (g : Nat → Nat) (u : Nat → Value) (E : Es) (X : Xs) (N : List NEn) (d : Nat), TSt wr w1.heap.size rb sb mb t g u E X N d w1)) (fun iv _ => 3 - (intOf iv).toNat)
          case atStart => exact ⟨0, by omega, rfl, HT⟩
          case round =>
            clear HT
            obtain ⟨t, ht, rfl, HR⟩ := hrel
            obtain ⟨g, u, E, X, N, d, hT⟩ := HR.out
            have HT := Lib.hid hT
            clear hT HR
            by_cases hlt : t < 3
            · have ed : decide ((t : Int) < 3) = true := decide_eq_true (by omega)
              have HXl : Hid (∀ i, i < 2 → (X (2 + i)).length ≤ 4000) := Lib.hid fun i hi => (HT.out.lens hi).1
              go_wp2
              generalize wr = wt at *
              go_loopw [15] (fun jv wr => ∃ j : Nat, j ≤ 2 ∧ jv = .int .i64 (j : Int) ∧ Hid (∃ (N' : List NEn) (d' : Nat), PSR wr w1.heap.size rb sb mb t j g u E X N N' d d' w1)) (fun jv _ => 2 - (intOf jv).toNat)
              case atStart => exact ⟨0, by omega, rfl, Lib.hid ⟨_, _, HT.out.start⟩⟩
              case round =>
                obtain ⟨j, hj, rfl, HJ⟩ := hrel
                obtain ⟨N', d', hP⟩ := HJ.out
                have HP := Lib.hid hP
                clear hP HJ
                by_cases hj2 : j < 2
                · have Hpost := Lib.hid (PSR.post HT.out hlt hj2 HP.out)
                  have Htell := Lib.hid (fun (w2 : World) (P : List NEn) r hL hb => PSR.tell HT.out hlt hj2 HP.out (w2 := w2) (P := P) r hL hb)
                  go_wp2_with fail
                  refine Hpost.out.mono ?_
                  rintro e w6 ⟨rfl, P, r6, hL6, b6⟩
                  have H6 := Lib.hid (Htell.out w6 P r6 hL6 b6)
                  clear r6 hL6 b6 Hpost Htell
                  go_wp2_with fail
                  refine H6.out.mono ?_
                  rintro e w7 ⟨rfl, N7, d7, p7⟩
                  have H7 : Hid (∃ (N' : List NEn) (d' : Nat), PSR w7 w1.heap.size rb sb mb t (j + 1) g u E X N N' d d' w1) := Lib.hid ⟨_, _, p7⟩
                  clear p7 H6
                  go_wp2
                  go_roundw
                  case rel => exact ⟨j + 1, by omega, by go_num, H7⟩
                  case measure => simp [intOf]; omega
                · obtain rfl : j = 2 := by omega
                  have Hlen := Lib.hid (PSR.len HT.out HP.out)
                  have HI : Hid (InvR E X ((N ++ N').map (·.L))) := Lib.hid (by rw [List.map_append, HP.out.is]; exact turn_inv HT.out.inv)
                  have p6 := HP.out.road.cells.2.2.2.2.2.2
                  go_wp2_with fail
                  refine (netUnder_any HP.out.road.net (Nat.le_trans Hlen.out.1 (by omega))).mono ?_
                  rintro e w6 ⟨v6, rfl, o6, b6⟩
                  have HB6 := Lib.hid ((BSt.start HP.out).below b6)
                  obtain ⟨M, hM⟩ : ∃ M, N ++ N' = M := ⟨_, rfl⟩
                  have HM := Lib.hid hM
                  rw [hM] at o6 HI HB6
                  obtain ⟨ML, hML⟩ : ∃ ML, M.length = ML := ⟨_, rfl⟩
                  have HML : Hid (M.length = ML ∧ ML ≤ 4002) := Lib.hid ⟨hML, by rw [← hML, ← hM]; exact Hlen.out.1⟩
                  rw [hML] at o6
                  obtain ⟨A6, c6, rfl, -, -, -⟩ := own_sliceN o6
                  have Ho6 := Lib.hid o6
                  clear o6 b6 hM hML p6
                  generalize wr = wu at *
                  go_wp2
                  go_loopw [17] (fun iv wr => ∃ i : Nat, i ≤ ML ∧ iv = .int .i64 (i : Int) ∧ Hid (∃ u', BSt wr w1.heap.size rb sb mb i g u' E X M d' w1 ∧ wr.ownsRow wu.heap.size 3 1 (.slice A6 ML c6) ML ((M.map (·.n)).map encZ))) (fun iv _ => ML - (intOf iv).toNat)
                  case atStart => exact ⟨0, by omega, rfl, Lib.hid ⟨u, HB6.out, Ho6.out⟩⟩
                  case round =>
                    clear HB6 Ho6
                    obtain ⟨i, hiM, rfl, HBB⟩ := hrel
                    obtain ⟨u', hB, hown⟩ := HBB.out
                    have HBt := Lib.hid hB
                    by_cases hi0 : i < ML
                    · have hi : i < M.length := by rw [HML.out.1]; exact hi0
                      obtain ⟨a6, rfl, -, -⟩ := (Has.of_ownN hown).cell (k := i) (by omega)
                      have Hown : Hid (wr.ownsRow wu.heap.size 3 1 (.slice (some a6) ML c6) ML ((M.map (·.n)).map encZ)) := Lib.hid hown
                      have HcT : Hid (∀ wx, KT wr wx → wx.cell? (a6.add i) = some (.int .i64 M[i].n)) := Lib.hid fun wx hx => by
                        obtain ⟨a', e, -, hc⟩ := (Has.of_ownN (hx.own Hown.out)).cell (k := i) (by omega)
                        injection e with e
                        subst e
                        rw [hc]
                        simp [hi, encZ]
                      have HK : Hid (∀ wx, Below wr.heap.size wr wx → wx.cell? ⟨rb, 6, none⟩ = some (.pointer (some ⟨sb, 0, none⟩)) ∧ wx.cell? (a6.add i) = some (.int .i64 M[i].n)) := Lib.hid fun wx hx => ⟨(HBt.out.below hx).road.cells.2.2.2.2.2.2, HcT.out _ (KT.of hx)⟩
                      have hwf : (Lit.int .i64 M[i].n).wf = true := by
                        have hpn := HBt.out.road.net.nums M[i] (by rw [List.drop_eq_getElem_cons hi]; exact List.mem_cons_self)
                        have hd1 := Hlen.out.2
                        have hd2 := HT.out.dk
                        obtain ⟨y, hy⟩ : ∃ y : Nat, M[i].n = (y : Int) := ⟨M[i].n.toNat, by omega⟩
                        rw [hy]
                        exact wf_nat y (by clear hown hB; omega)
                      have HDel : Hid (∀ wx, Below wr.heap.size wr wx → Calls Try.prog 36 #[.pointer (some ⟨sb, 0, none⟩), .int .i64 M[i].n] wx fun e w' => e = .returned (.tuple #[.agg #[.int .i64 M[i].L.kind, .int .i64 M[i].L.frm, .int .i64 M[i].L.to, .int .i64 M[i].L.a, .int .i64 M[i].L.b, .int .i64 M[i].L.c, .int .i64 M[i].L.d, .string M[i].L.s, .string M[i].L.t, .slice M[i].Ap M[i].L.ps.length M[i].cp, .slice M[i].Ai M[i].L.is.length M[i].ci, .int .i64 M[i].L.code, .bool M[i].L.yes, .string M[i].L.body], .int .i64 0]) ∧ NetAt w' w1.heap.size sb mb (M.drop (i + 1)) d' ∧ Kept2 sb mb wx w') := Lib.hid fun wx hx => by
                        have hh := HBt.out.head hi
                        refine (netDeliver_any (HBt.out.below hx).road.net M[i].n hwf).mono ?_
                        rintro e w' (⟨hg, -⟩ | ⟨e0, hg, rfl, n7, -, k7⟩)
                        · rw [hh.1] at hg; cases hg
                        · rw [hh.1] at hg
                          injection hg with hg
                          subst hg
                          rw [hh.2] at n7
                          exact ⟨rfl, n7, k7⟩
                      have HBd := Lib.hid (HBt.out.below (Below.refl _ wr).drew)
                      obtain ⟨q6, qc⟩ := HK.out wr (Below.refl _ _)
                      clear hB hown hwf HBB
                      go_wp2
                      have hS0 : (fun wx => wx.cell? ⟨rb, 6, none⟩ = some (.pointer (some ⟨sb, 0, none⟩)) ∧ wx.cell? (a6.add i) = some (.int .i64 M[i].n)) wr.drew := HK.out _ (Below.refl _ _).drew
                      refine wp_region_held_drew (S := fun wx => wx.cell? ⟨rb, 6, none⟩ = some (.pointer (some ⟨sb, 0, none⟩)) ∧ wx.cell? (a6.add i) = some (.int .i64 M[i].n)) (by kernel_rfl) hS0 (fun _ => ?_)
                      refine wpAnyH_take (i := 0) (oi := ⟨some 222, _, _, _, _, _⟩) (v := .pointer (some ⟨rb, 0, none⟩)) rfl (by kernel_rfl) (by kernel_rfl) (by kernel_rfl) (fun _ _ _ h => h) (Or.inl ⟨by rfl, ?_⟩) (by assumption) ?_
                      · intro w hSw; (try dsimp only at hSw); go_simp
                      simp only [Act.put, List.setIfInBounds_toArray, List.set_cons_zero, List.set_cons_succ]
                      refine wpAnyH_take (i := 1) (oi := ⟨some 223, _, _, _, _, _⟩) (v := .pointer (some ⟨rb, 0, none⟩)) rfl (by kernel_rfl) (by kernel_rfl) (by kernel_rfl) (fun _ _ _ h => h) (Or.inl ⟨by rfl, ?_⟩) (by assumption) ?_
                      · intro w hSw; (try dsimp only at hSw); go_simp
                      simp only [Act.put, List.setIfInBounds_toArray, List.set_cons_zero, List.set_cons_succ]
                      refine wpAnyH_take (i := 2) (oi := ⟨some 224, _, _, _, _, _⟩) (v := .pointer (some ⟨rb, 6, none⟩)) rfl (by kernel_rfl) (by kernel_rfl) (by kernel_rfl) (fun _ _ _ h => h) (Or.inl ⟨by rfl, ?_⟩) (by assumption) ?_
                      · intro w hSw; (try dsimp only at hSw); go_simp
                      simp only [Act.put, List.setIfInBounds_toArray, List.set_cons_zero, List.set_cons_succ]
                      refine wpAnyH_take (i := 3) (oi := ⟨some 225, _, _, _, _, _⟩) (v := .pointer (some ⟨sb, 0, none⟩)) rfl (by kernel_rfl) (by kernel_rfl) (by kernel_rfl) (fun _ _ _ h => h) (Or.inl ⟨by rfl, ?_⟩) (by assumption) ?_
                      · intro w hSw; (try dsimp only at hSw); go_simp
                      simp only [Act.put, List.setIfInBounds_toArray, List.set_cons_zero, List.set_cons_succ]
                      refine wpAnyH_take (i := 4) (oi := ⟨some 226, _, _, _, _, _⟩) (v := .slice (some a6) ML c6) rfl (by kernel_rfl) (by kernel_rfl) (by kernel_rfl) (fun _ _ _ h => h) (Or.inl ⟨by rfl, ?_⟩) (by assumption) ?_
                      · intro w hSw; (try dsimp only at hSw); go_simp
                      simp only [Act.put, List.setIfInBounds_toArray, List.set_cons_zero, List.set_cons_succ]
                      refine wpAnyH_take (i := 5) (oi := ⟨some 227, _, _, _, _, _⟩) (v := .int .i64 (i : Int)) rfl (by kernel_rfl) (by kernel_rfl) (by kernel_rfl) (fun _ _ _ h => h) (Or.inl ⟨by rfl, ?_⟩) (by assumption) ?_
                      · intro w hSw; (try dsimp only at hSw); go_simp
                      simp only [Act.put, List.setIfInBounds_toArray, List.set_cons_zero, List.set_cons_succ]
                      refine wpAnyH_take (i := 6) (oi := ⟨some 228, _, _, _, _, _⟩) (v := .pointer (some (a6.add i))) rfl (by kernel_rfl) (by kernel_rfl) (by kernel_rfl) (fun _ _ _ h => h) (Or.inl ⟨by rfl, ?_⟩) (by assumption) ?_
                      · intro w hSw; (try dsimp only at hSw); go_simp
                      simp only [Act.put, List.setIfInBounds_toArray, List.set_cons_zero, List.set_cons_succ]
                      refine wpAnyH_take (i := 7) (oi := ⟨some 229, _, _, _, _, _⟩) (v := .int .i64 M[i].n) rfl (by kernel_rfl) (by kernel_rfl) (by kernel_rfl) (fun _ _ _ h => h) (Or.inl ⟨by rfl, ?_⟩) (by assumption) ?_
                      · intro w hSw; (try dsimp only at hSw); go_simp
                      simp only [Act.put, List.setIfInBounds_toArray, List.set_cons_zero, List.set_cons_succ]
                      refine wpAnyH_ready (rs := [8, 12]) (by kernel_rfl) (by simp) (AllReadyH.cons (o := ⟨some 230, _, _, _, _, _⟩) rfl (fun K hK => ?_) (AllReadyH.cons (o := ⟨some 18, _, _, _, _, _⟩) rfl (fun K hK => ?_) AllReadyH.nil))
                      · go_simp
                        refine (HDel.out _ (Below.refl _ _).drew).mono ?_
                        rintro e w7 ⟨rfl, n7, k7⟩
                        have r7 := HBd.out.road.atNet n7 k7
                        have R7 := Lib.hid (And.intro r7.1 (And.intro (HBd.out.bel.trans r7.2) ((KT.of (Below.refl _ wr).drew).trans (KT.kept2 k7 HBd.out.road.net))))
                        clear n7 k7 r7
                        have hS7 : (fun wx => wx.cell? ⟨rb, 6, none⟩ = some (.pointer (some ⟨sb, 0, none⟩)) ∧ wx.cell? (a6.add i) = some (.int .i64 M[i].n)) w7 := ⟨R7.out.1.cells.2.2.2.2.2.2, HcT.out _ R7.out.2.2⟩
                        refine hK.out _ _ hS7 (fun _ => ?_)
                        clear hK K
                        refine wpAnyH_take (i := 9) (oi := ⟨some 221, _, _, _, _, _⟩) (v := .tuple #[.agg #[.int .i64 M[i].L.kind, .int .i64 M[i].L.frm, .int .i64 M[i].L.to, .int .i64 M[i].L.a, .int .i64 M[i].L.b, .int .i64 M[i].L.c, .int .i64 M[i].L.d, .string M[i].L.s, .string M[i].L.t, .slice M[i].Ap M[i].L.ps.length M[i].cp, .slice M[i].Ai M[i].L.is.length M[i].ci, .int .i64 M[i].L.code, .bool M[i].L.yes, .string M[i].L.body], .int .i64 0]) rfl (by kernel_rfl) (by kernel_rfl) (by kernel_rfl) (fun _ _ _ h => h) (Or.inl ⟨by rfl, ?_⟩) (by assumption) ?_
                        · intro w hSw; (try dsimp only at hSw); go_simp
                        simp only [Act.put, List.setIfInBounds_toArray, List.set_cons_zero, List.set_cons_succ]
                        refine wpAnyH_take (i := 10) (oi := ⟨some 231, _, _, _, _, _⟩) (v := .agg #[.int .i64 M[i].L.kind, .int .i64 M[i].L.frm, .int .i64 M[i].L.to, .int .i64 M[i].L.a, .int .i64 M[i].L.b, .int .i64 M[i].L.c, .int .i64 M[i].L.d, .string M[i].L.s, .string M[i].L.t, .slice M[i].Ap M[i].L.ps.length M[i].cp, .slice M[i].Ai M[i].L.is.length M[i].ci, .int .i64 M[i].L.code, .bool M[i].L.yes, .string M[i].L.body]) rfl (by kernel_rfl) (by kernel_rfl) (by kernel_rfl) (fun _ _ _ h => h) (Or.inl ⟨by rfl, ?_⟩) (by assumption) ?_
                        · intro w hSw; (try dsimp only at hSw); go_simp
                        simp only [Act.put, List.setIfInBounds_toArray, List.set_cons_zero, List.set_cons_succ]
                        refine wpAnyH_take (i := 11) (oi := ⟨some 232, _, _, _, _, _⟩) (v := .int .i64 0) rfl (by kernel_rfl) (by kernel_rfl) (by kernel_rfl) (fun _ _ _ h => h) (Or.inl ⟨by rfl, ?_⟩) (by assumption) ?_
                        · intro w hSw; (try dsimp only at hSw); go_simp
                        simp only [Act.put, List.setIfInBounds_toArray, List.set_cons_zero, List.set_cons_succ]
                        refine wpAnyH_ready (rs := [12]) (by kernel_rfl) (by simp) (AllReadyH.cons (o := ⟨some 18, _, _, _, _, _⟩) rfl (fun K hK => ?_) AllReadyH.nil)
                        go_simp
                        have bz : Box (w7.alloc (.cells #[.int .i64 0, .int .i64 0, .int .i64 0, .int .i64 0, .int .i64 0, .int .i64 0, .int .i64 0, .string ⟨#[]⟩, .string ⟨#[]⟩, .slice none 0 0, .slice none 0 0, .int .i64 0, .bool false, .string ⟨#[]⟩] 69)) w7.heap.size 69 #[.int .i64 0, .int .i64 0, .int .i64 0, .int .i64 0, .int .i64 0, .int .i64 0, .int .i64 0, .string ⟨#[]⟩, .string ⟨#[]⟩, .slice none 0 0, .slice none 0 0, .int .i64 0, .bool false, .string ⟨#[]⟩] := Box.made _ _ _
                        have bb : Below w7.heap.size w7 (w7.alloc (.cells #[.int .i64 0, .int .i64 0, .int .i64 0, .int .i64 0, .int .i64 0, .int .i64 0, .int .i64 0, .string ⟨#[]⟩, .string ⟨#[]⟩, .slice none 0 0, .slice none 0 0, .int .i64 0, .bool false, .string ⟨#[]⟩] 69)) := below_box _
                        have hSz : (fun wx => wx.cell? ⟨rb, 6, none⟩ = some (.pointer (some ⟨sb, 0, none⟩)) ∧ wx.cell? (a6.add i) = some (.int .i64 M[i].n)) (w7.alloc (.cells #[.int .i64 0, .int .i64 0, .int .i64 0, .int .i64 0, .int .i64 0, .int .i64 0, .int .i64 0, .string ⟨#[]⟩, .string ⟨#[]⟩, .slice none 0 0, .slice none 0 0, .int .i64 0, .bool false, .string ⟨#[]⟩] 69)) := ⟨(R7.out.1.below bb).cells.2.2.2.2.2.2, HcT.out _ (R7.out.2.2.trans (KT.of bb))⟩
                        refine hK.out _ _ hSz (fun _ => ?_)
                        clear hK K
                        obtain ⟨W8, hW8⟩ : ∃ W8, (((((((((((((((w7.alloc (.cells #[.int .i64 0, .int .i64 0, .int .i64 0, .int .i64 0, .int .i64 0, .int .i64 0, .int .i64 0, .string ⟨#[]⟩, .string ⟨#[]⟩, .slice none 0 0, .slice none 0 0, .int .i64 0, .bool false, .string ⟨#[]⟩] 69)).setCell ⟨w7.heap.size, 0, none⟩ (.int .i64 M[i].L.kind)).setCell ⟨w7.heap.size, 1, none⟩ (.int .i64 M[i].L.frm)).setCell ⟨w7.heap.size, 2, none⟩ (.int .i64 M[i].L.to)).setCell ⟨w7.heap.size, 3, none⟩ (.int .i64 M[i].L.a)).setCell ⟨w7.heap.size, 4, none⟩ (.int .i64 M[i].L.b)).setCell ⟨w7.heap.size, 5, none⟩ (.int .i64 M[i].L.c)).setCell ⟨w7.heap.size, 6, none⟩ (.int .i64 M[i].L.d)).setCell ⟨w7.heap.size, 7, none⟩ (.string M[i].L.s)).setCell ⟨w7.heap.size, 8, none⟩ (.string M[i].L.t)).setCell ⟨w7.heap.size, 9, none⟩ (.slice M[i].Ap M[i].L.ps.length M[i].cp)).setCell ⟨w7.heap.size, 10, none⟩ (.slice M[i].Ai M[i].L.is.length M[i].ci)).setCell ⟨w7.heap.size, 11, none⟩ (.int .i64 M[i].L.code)).setCell ⟨w7.heap.size, 12, none⟩ (.bool M[i].L.yes)).setCell ⟨w7.heap.size, 13, none⟩ (.string M[i].L.body)) = W8 := ⟨_, rfl⟩
                        have st := store14 bz hW8
                        have rL := (R7.out.1.below bb).atLetter bz st.2.1 R7.out.1.lo
                        have R8 := Lib.hid (And.intro rL.1 (And.intro ((R7.out.2.1.trans (bb.mono R7.out.1.lo)).trans rL.2.1) (And.intro ((R7.out.2.2.trans (KT.of bb)).trans rL.2.2) st.1)))
                        refine wpAnyH_ready (rs := [13]) (by kernel_rfl) (by simp) (AllReadyH.cons (o := ⟨none, _, _, _, _, _⟩) rfl (fun K hK => ?_) AllReadyH.nil)
                        refine step_storeL rfl (.tmp 18) (.tmp 231) rfl rfl rfl bz hW8 ?_
                        have hS8 : (fun wx => wx.cell? ⟨rb, 6, none⟩ = some (.pointer (some ⟨sb, 0, none⟩)) ∧ wx.cell? (a6.add i) = some (.int .i64 M[i].n)) W8 := ⟨R8.out.1.cells.2.2.2.2.2.2, HcT.out _ R8.out.2.2.1⟩
                        refine hK.out _ _ hS8 (fun _ => ?_)
                        clear hK K bz bb hW8 st rL hSz hS7 hS0
                        refine wpAnyH_take (i := 14) (oi := ⟨some 19, _, _, _, _, _⟩) (v := .int .i64 0) rfl (by kernel_rfl) (by kernel_rfl) (by kernel_rfl) (fun _ _ _ h => h) (Or.inl ⟨by rfl, ?_⟩) (by assumption) ?_
                        · intro w hSw; (try dsimp only at hSw); go_simp
                        simp only [Act.put, List.setIfInBounds_toArray, List.set_cons_zero, List.set_cons_succ]
                        clear hS8
                        refine wpAnyH_done (by kernel_rfl) ?_ _
                        have HBr := Lib.hid (bring_ok R8.out.1 (BSt.ok HI.out hi) (BSt.lenT HI.out HXl.out) M[i].Ap M[i].cp M[i].Ai M[i].ci)
                        have hbx9 := R8.out.2.2.2
                        have z0 := hbx9.cell 0
                        have z1 := hbx9.cell 1
                        have z2 := hbx9.cell 2
                        have z3 := hbx9.cell 3
                        have z4 := hbx9.cell 4
                        have z5 := hbx9.cell 5
                        have z6 := hbx9.cell 6
                        have z7 := hbx9.cell 7
                        have z8 := hbx9.cell 8
                        have z9 := hbx9.cell 9
                        have z10 := hbx9.cell 10
                        have z11 := hbx9.cell 11
                        have z12 := hbx9.cell 12
                        have z13 := hbx9.cell 13
                        simp only [List.getElem?_toArray, List.getElem?_cons_zero, List.getElem?_cons_succ] at z0 z1 z2 z3 z4 z5 z6 z7 z8 z9 z10 z11 z12 z13
                        have p0 := R8.out.1.cells.1
                        clear hbx9
                        go_wp2_with fail
                        refine HBr.out.mono ?_
                        rintro e w10 ⟨rfl, u10, r10, b10, k10⟩
                        have HF : Hid (∃ u', BSt w10 w1.heap.size rb sb mb (i + 1) g u' E X M d' w1 ∧ w10.ownsRow wu.heap.size 3 1 (.slice (some a6) ML c6) ML ((M.map (·.n)).map encZ)) := Lib.hid ⟨u10, BSt.next hi r10 (R8.out.2.1.trans b10), (R8.out.2.2.1.trans k10).own Hown.out⟩
                        have hML4 : ML ≤ 4002 := HML.out.2
                        clear r10 b10 k10 z0 z1 z2 z3 z4 z5 z6 z7 z8 z9 z10 z11 z12 z13 p0 HBr
                        go_wp2
                        go_roundw
                        case rel => exact ⟨i + 1, by omega, by go_num, HF⟩
                        case measure => simp [intOf]; omega
                      · go_simp
                        have bz : Box (wr.drew.alloc (.cells #[.int .i64 0, .int .i64 0, .int .i64 0, .int .i64 0, .int .i64 0, .int .i64 0, .int .i64 0, .string ⟨#[]⟩, .string ⟨#[]⟩, .slice none 0 0, .slice none 0 0, .int .i64 0, .bool false, .string ⟨#[]⟩] 69)) wr.drew.heap.size 69 #[.int .i64 0, .int .i64 0, .int .i64 0, .int .i64 0, .int .i64 0, .int .i64 0, .int .i64 0, .string ⟨#[]⟩, .string ⟨#[]⟩, .slice none 0 0, .slice none 0 0, .int .i64 0, .bool false, .string ⟨#[]⟩] := Box.made _ _ _
                        have bb : Below wr.drew.heap.size wr.drew (wr.drew.alloc (.cells #[.int .i64 0, .int .i64 0, .int .i64 0, .int .i64 0, .int .i64 0, .int .i64 0, .int .i64 0, .string ⟨#[]⟩, .string ⟨#[]⟩, .slice none 0 0, .slice none 0 0, .int .i64 0, .bool false, .string ⟨#[]⟩] 69)) := below_box _
                        have bb2 : Below wr.heap.size wr (wr.drew.alloc (.cells #[.int .i64 0, .int .i64 0, .int .i64 0, .int .i64 0, .int .i64 0, .int .i64 0, .int .i64 0, .string ⟨#[]⟩, .string ⟨#[]⟩, .slice none 0 0, .slice none 0 0, .int .i64 0, .bool false, .string ⟨#[]⟩] 69)) := (Below.refl _ wr).drew.trans bb
                        have hSz : (fun wx => wx.cell? ⟨rb, 6, none⟩ = some (.pointer (some ⟨sb, 0, none⟩)) ∧ wx.cell? (a6.add i) = some (.int .i64 M[i].n)) (wr.drew.alloc (.cells #[.int .i64 0, .int .i64 0, .int .i64 0, .int .i64 0, .int .i64 0, .int .i64 0, .int .i64 0, .string ⟨#[]⟩, .string ⟨#[]⟩, .slice none 0 0, .slice none 0 0, .int .i64 0, .bool false, .string ⟨#[]⟩] 69)) := HK.out _ bb2
                        refine hK.out _ _ hSz (fun _ => ?_)
                        clear hK K
                        refine wpAnyH_ready (rs := [8]) (by kernel_rfl) (by simp) (AllReadyH.cons (o := ⟨some 230, _, _, _, _, _⟩) rfl (fun K hK => ?_) AllReadyH.nil)
                        go_simp
                        refine (HDel.out _ bb2).mono ?_
                        rintro e w7 ⟨rfl, n7, k7⟩
                        have HBz := HBt.out.below bb2
                        have r7 := HBz.road.atNet n7 k7
                        have bz7 := HBz.road.net.boxKept k7 bz (by decide)
                        have R7 := Lib.hid (And.intro r7.1 (And.intro (HBz.bel.trans r7.2) ((KT.of bb2).trans (KT.kept2 k7 HBz.road.net))))
                        clear n7 k7 r7 bb
                        have hS7 : (fun wx => wx.cell? ⟨rb, 6, none⟩ = some (.pointer (some ⟨sb, 0, none⟩)) ∧ wx.cell? (a6.add i) = some (.int .i64 M[i].n)) w7 := ⟨R7.out.1.cells.2.2.2.2.2.2, HcT.out _ R7.out.2.2⟩
                        refine hK.out _ _ hS7 (fun _ => ?_)
                        clear hK K
                        refine wpAnyH_take (i := 9) (oi := ⟨some 221, _, _, _, _, _⟩) (v := .tuple #[.agg #[.int .i64 M[i].L.kind, .int .i64 M[i].L.frm, .int .i64 M[i].L.to, .int .i64 M[i].L.a, .int .i64 M[i].L.b, .int .i64 M[i].L.c, .int .i64 M[i].L.d, .string M[i].L.s, .string M[i].L.t, .slice M[i].Ap M[i].L.ps.length M[i].cp, .slice M[i].Ai M[i].L.is.length M[i].ci, .int .i64 M[i].L.code, .bool M[i].L.yes, .string M[i].L.body], .int .i64 0]) rfl (by kernel_rfl) (by kernel_rfl) (by kernel_rfl) (fun _ _ _ h => h) (Or.inl ⟨by rfl, ?_⟩) (by assumption) ?_
                        · intro w hSw; (try dsimp only at hSw); go_simp
                        simp only [Act.put, List.setIfInBounds_toArray, List.set_cons_zero, List.set_cons_succ]
                        refine wpAnyH_take (i := 10) (oi := ⟨some 231, _, _, _, _, _⟩) (v := .agg #[.int .i64 M[i].L.kind, .int .i64 M[i].L.frm, .int .i64 M[i].L.to, .int .i64 M[i].L.a, .int .i64 M[i].L.b, .int .i64 M[i].L.c, .int .i64 M[i].L.d, .string M[i].L.s, .string M[i].L.t, .slice M[i].Ap M[i].L.ps.length M[i].cp, .slice M[i].Ai M[i].L.is.length M[i].ci, .int .i64 M[i].L.code, .bool M[i].L.yes, .string M[i].L.body]) rfl (by kernel_rfl) (by kernel_rfl) (by kernel_rfl) (fun _ _ _ h => h) (Or.inl ⟨by rfl, ?_⟩) (by assumption) ?_
                        · intro w hSw; (try dsimp only at hSw); go_simp
                        simp only [Act.put, List.setIfInBounds_toArray, List.set_cons_zero, List.set_cons_succ]
                        refine wpAnyH_take (i := 11) (oi := ⟨some 232, _, _, _, _, _⟩) (v := .int .i64 0) rfl (by kernel_rfl) (by kernel_rfl) (by kernel_rfl) (fun _ _ _ h => h) (Or.inl ⟨by rfl, ?_⟩) (by assumption) ?_
                        · intro w hSw; (try dsimp only at hSw); go_simp
                        simp only [Act.put, List.setIfInBounds_toArray, List.set_cons_zero, List.set_cons_succ]
                        obtain ⟨W8, hW8⟩ : ∃ W8, ((((((((((((((w7.setCell ⟨wr.heap.size, 0, none⟩ (.int .i64 M[i].L.kind)).setCell ⟨wr.heap.size, 1, none⟩ (.int .i64 M[i].L.frm)).setCell ⟨wr.heap.size, 2, none⟩ (.int .i64 M[i].L.to)).setCell ⟨wr.heap.size, 3, none⟩ (.int .i64 M[i].L.a)).setCell ⟨wr.heap.size, 4, none⟩ (.int .i64 M[i].L.b)).setCell ⟨wr.heap.size, 5, none⟩ (.int .i64 M[i].L.c)).setCell ⟨wr.heap.size, 6, none⟩ (.int .i64 M[i].L.d)).setCell ⟨wr.heap.size, 7, none⟩ (.string M[i].L.s)).setCell ⟨wr.heap.size, 8, none⟩ (.string M[i].L.t)).setCell ⟨wr.heap.size, 9, none⟩ (.slice M[i].Ap M[i].L.ps.length M[i].cp)).setCell ⟨wr.heap.size, 10, none⟩ (.slice M[i].Ai M[i].L.is.length M[i].ci)).setCell ⟨wr.heap.size, 11, none⟩ (.int .i64 M[i].L.code)).setCell ⟨wr.heap.size, 12, none⟩ (.bool M[i].L.yes)).setCell ⟨wr.heap.size, 13, none⟩ (.string M[i].L.body)) = W8 := ⟨_, rfl⟩
                        have st := store14 (g := wr.heap.size) bz7 hW8
                        have rL := R7.out.1.atLetter (gl := wr.heap.size) bz7 st.2.1 HBt.out.road.lo
                        have R8 := Lib.hid (And.intro rL.1 (And.intro (R7.out.2.1.trans rL.2.1) (And.intro (R7.out.2.2.trans rL.2.2) st.1)))
                        refine wpAnyH_ready (rs := [13]) (by kernel_rfl) (by simp) (AllReadyH.cons (o := ⟨none, _, _, _, _, _⟩) rfl (fun K hK => ?_) AllReadyH.nil)
                        refine step_storeL (g := wr.heap.size) rfl (.tmp 18) (.tmp 231) rfl rfl rfl bz7 hW8 ?_
                        have hS8 : (fun wx => wx.cell? ⟨rb, 6, none⟩ = some (.pointer (some ⟨sb, 0, none⟩)) ∧ wx.cell? (a6.add i) = some (.int .i64 M[i].n)) W8 := ⟨R8.out.1.cells.2.2.2.2.2.2, HcT.out _ R8.out.2.2.1⟩
                        refine hK.out _ _ hS8 (fun _ => ?_)
                        clear hK K bz bz7 bb2 hW8 st rL hSz hS7 hS0 HBz
                        refine wpAnyH_take (i := 14) (oi := ⟨some 19, _, _, _, _, _⟩) (v := .int .i64 0) rfl (by kernel_rfl) (by kernel_rfl) (by kernel_rfl) (fun _ _ _ h => h) (Or.inl ⟨by rfl, ?_⟩) (by assumption) ?_
                        · intro w hSw; (try dsimp only at hSw); go_simp
                        simp only [Act.put, List.setIfInBounds_toArray, List.set_cons_zero, List.set_cons_succ]
                        clear hS8
                        refine wpAnyH_done (by kernel_rfl) ?_ _
                        have HBr := Lib.hid (bring_ok R8.out.1 (BSt.ok HI.out hi) (BSt.lenT HI.out HXl.out) M[i].Ap M[i].cp M[i].Ai M[i].ci)
                        have hbx9 := R8.out.2.2.2
                        have z0 := hbx9.cell 0
                        have z1 := hbx9.cell 1
                        have z2 := hbx9.cell 2
                        have z3 := hbx9.cell 3
                        have z4 := hbx9.cell 4
                        have z5 := hbx9.cell 5
                        have z6 := hbx9.cell 6
                        have z7 := hbx9.cell 7
                        have z8 := hbx9.cell 8
                        have z9 := hbx9.cell 9
                        have z10 := hbx9.cell 10
                        have z11 := hbx9.cell 11
                        have z12 := hbx9.cell 12
                        have z13 := hbx9.cell 13
                        simp only [List.getElem?_toArray, List.getElem?_cons_zero, List.getElem?_cons_succ] at z0 z1 z2 z3 z4 z5 z6 z7 z8 z9 z10 z11 z12 z13
                        have p0 := R8.out.1.cells.1
                        clear hbx9
                        go_wp2_with fail
                        refine HBr.out.mono ?_
                        rintro e w10 ⟨rfl, u10, r10, b10, k10⟩
                        have HF : Hid (∃ u', BSt w10 w1.heap.size rb sb mb (i + 1) g u' E X M d' w1 ∧ w10.ownsRow wu.heap.size 3 1 (.slice (some a6) ML c6) ML ((M.map (·.n)).map encZ)) := Lib.hid ⟨u10, BSt.next hi r10 (R8.out.2.1.trans b10), (R8.out.2.2.1.trans k10).own Hown.out⟩
                        have hML4 : ML ≤ 4002 := HML.out.2
                        clear r10 b10 k10 z0 z1 z2 z3 z4 z5 z6 z7 z8 z9 z10 z11 z12 z13 p0 HBr
                        go_wp2
                        go_roundw
                        case rel => exact ⟨i + 1, by omega, by go_num, HF⟩
                        case measure => simp [intOf]; omega
                    · obtain rfl : i = ML := by omega
                      have HF : Hid (∃ (g : Nat → Nat) (u : Nat → Value) (E : Es) (X : Xs) (N : List NEn) (d : Nat), TSt wr w1.heap.size rb sb mb (t + 1) g u E X N d w1) := Lib.hid (by
                        have hl := Hlen.out
                        have hm := HM.out
                        subst hm
                        exact ⟨_, _, _, _, _, _, TSt.turn HT.out HP.out HBt.out (by rw [HML.out.1]; exact Nat.le_refl _) hl.2⟩)
                      clear hB hown HBB
                      go_wp2
                      go_roundw
                      case rel => exact ⟨t + 1, by omega, by go_num, HF⟩
                      case measure => simp [intOf]; omega
            · obtain rfl : t = 3 := by omega
              have HFu := Lib.hid (HT.out.full (by omega))
              have HNo := Lib.hid (HT.out.none (by omega))
              have hm0 : (X 4).length = (X 3).length := by
                have h1 := (HT.out.inv.dir 1 (by omega)).m
                have h2 := HFu.out 1 (by omega)
                exact h1.symm.trans h2
              have hm1 : (X 5).length = (X 2).length := by
                have h1 := (HT.out.inv.dir 0 (by omega)).m
                have h2 := HFu.out 0 (by omega)
                exact h1.symm.trans h2
              have hl0 : (E 0).l.length = 0 := by rw [HNo.out 0 (by omega)]; rfl
              have hl1 : (E 1).l.length = 0 := by rw [HNo.out 1 (by omega)]; rfl
              obtain ⟨A2, c2, hu2, -, -, -⟩ := (HT.out.road.rows 2 (by omega) (by omega)).slice
              obtain ⟨A3, c3, hu3, -, -, -⟩ := (HT.out.road.rows 3 (by omega) (by omega)).slice
              obtain ⟨A4, c4, hu4, -, -, -⟩ := (HT.out.road.rows 4 (by omega) (by omega)).slice
              obtain ⟨A5, c5, hu5, -, -, -⟩ := (HT.out.road.rows 5 (by omega) (by omega)).slice
              rw [hm0] at hu4
              rw [hm1] at hu5
              obtain ⟨L2, hL2⟩ : ∃ L2, (X 2).length = L2 := ⟨_, rfl⟩
              obtain ⟨L3, hL3⟩ : ∃ L3, (X 3).length = L3 := ⟨_, rfl⟩
              rw [hL2] at hu2 hu5
              rw [hL3] at hu3 hu4
              have HK : Hid (∀ wx, Below wr.heap.size wr wx → (wx.cell? ⟨rb, 0, none⟩ = some (.pointer (some ⟨g 0, 0, none⟩)) ∧ wx.cell? ⟨rb, 1, none⟩ = some (.pointer (some ⟨g 1, 0, none⟩)) ∧ wx.cell? ⟨rb, 2, none⟩ = some (.slice A2 L2 c2) ∧ wx.cell? ⟨rb, 3, none⟩ = some (.slice A3 L3 c3) ∧ wx.cell? ⟨rb, 4, none⟩ = some (.slice A4 L3 c4) ∧ wx.cell? ⟨rb, 5, none⟩ = some (.slice A5 L2 c5)) ∧ Below wr.heap.size wr wx) := Lib.hid fun wx hx => by
                have hc := (HT.out.road.below hx).cells
                rw [hu2, hu3, hu4, hu5] at hc
                exact ⟨⟨hc.1, hc.2.1, hc.2.2.1, hc.2.2.2.1, hc.2.2.2.2.1, hc.2.2.2.2.2.1⟩, hx⟩
              have HBg : Hid (∀ wx, Below wr.heap.size wr wx → Calls Try.prog 41 #[.pointer (some ⟨rb, 0, none⟩)] wx fun e w' => e = .returned (.bool true) ∧ Below wx.heap.size wx w') := Lib.hid fun wx hx => begins_any (HT.out.road.below hx) (fun i hi => by
                  have hD := HT.out.inv.dir (1 - i) (by omega)
                  rw [show 1 - (1 - i) = i from by omega] at hD
                  exact ⟨hD.t, hD.mle⟩) fun i hi => Nat.le_trans (HT.out.lens hi).1 (by omega)
              have HW0 : Hid (∀ wx, Below wr.heap.size wr wx → Calls Try.prog 30 #[.pointer (some ⟨g 0, 0, none⟩)] wx fun e w' => e = .returned (.int .i64 0) ∧ wx = w') := Lib.hid fun wx hx => by
                have h9 := sesWaiting_any ((HT.out.road.below hx).ends 0 (by omega))
                rw [hl0] at h9
                exact h9
              have HW1 : Hid (∀ wx, Below wr.heap.size wr wx → Calls Try.prog 30 #[.pointer (some ⟨g 1, 0, none⟩)] wx fun e w' => e = .returned (.int .i64 0) ∧ wx = w') := Lib.hid fun wx hx => by
                have h9 := sesWaiting_any ((HT.out.road.below hx).ends 1 (by omega))
                rw [hl1] at h9
                exact h9
              obtain ⟨⟨p0, p1, p2, p3, p4, p5⟩, -⟩ := HK.out wr (Below.refl _ _)
              have HBw : Hid (Below w.heap.size w wr) := Lib.hid (Hb1.out.trans (HT.out.bel.mono Hb1.out.size))
              clear hm0 hm1 hl0 hl1 hu2 hu3 hu4 hu5 hL2 hL3
              go_wp2
              go_region_held3 (fun wx => (wx.cell? ⟨rb, 0, none⟩ = some (.pointer (some ⟨g 0, 0, none⟩)) ∧ wx.cell? ⟨rb, 1, none⟩ = some (.pointer (some ⟨g 1, 0, none⟩)) ∧ wx.cell? ⟨rb, 2, none⟩ = some (.slice A2 L2 c2) ∧ wx.cell? ⟨rb, 3, none⟩ = some (.slice A3 L3 c3) ∧ wx.cell? ⟨rb, 4, none⟩ = some (.slice A4 L3 c4) ∧ wx.cell? ⟨rb, 5, none⟩ = some (.slice A5 L2 c5)) ∧ Below wr.heap.size wr wx)
                (first | exact HK.out _ (Below.refl _ _).drew | exact HK.out _ (And.right (by assumption)) | exact HK.out _ (below_thn (And.right (by assumption)) b6 (And.right (by assumption) : Below wr.heap.size wr _).size))
                (first
                  | (go_at_call 41; refine (HBg.out _ (And.right (by assumption))).mono ?_; rintro e w6 ⟨rfl, b6⟩)
                  | (go_at_call_of 30 (Value.pointer (some ⟨g 0, 0, none⟩)); refine (HW0.out _ (And.right (by assumption))).mono ?_; rintro e w9 ⟨rfl, rfl⟩)
                  | (go_at_call_of 30 (Value.pointer (some ⟨g 1, 0, none⟩)); refine (HW1.out _ (And.right (by assumption))).mono ?_; rintro e w9 ⟨rfl, rfl⟩))
              all_goals
                have HZ := Lib.hid (HBw.out.trans ((And.right (by assumption) : Below wr.heap.size wr _).mono HBw.out.size))
                go_wp2
                go_ret
                exact ⟨rfl, HZ.out⟩
end Go.Proofs.Ytaljojjpgkmiiaa

/- NetCounts: a letter comes as often as it was sent and doubled, less how often it was lost; nothing that wasn't sent ever comes. Condition: texts shorter than 2^47 bytes. -/
import Derived.Test.YtabcoidjbigdbaaNetI
import Derived.Test.YtabcoidjbigdbaaOpenNet
import Derived.Test.YtabcoidjbigdbaaRow
namespace Go.Proofs.Ytabcoidjbigdbaa
open Go.RowKit

set_option maxRecDepth 100000 in
set_option maxHeartbeats 12800000 in
theorem counts_walk (A : Option Addr) (n c : Nat) (l : List ActN) (C : Nat) (w : World) (hA : HasActs w C A n l) (hC : C ≤ w.heap.size) (hn : n ≤ maxLen) :
    Calls Try.prog 9 #[.slice A n c] w fun e w' => e = .returned (.bool true) ∧ Below w.heap.size w w' := by
  unfold maxLen at hn
  have Ha := Lib.hid (awake14_any w)
  have HA : Hid (∀ wx, Below w.heap.size w wx → HasActs wx C A n l) := Lib.hid fun wx hx => hA.belowOf hx hC
  clear hA
  by_cases hbig : 100 < n
  · have hbig' : (100 : Int) < (n : Int) := by omega
    go_enter Try.func9, Try.ntmps9
    go_wp2_with fail
    refine Ha.out.mono ?_
    rintro e w1 ⟨rfl, b1⟩
    have B1 := Lib.hid b1
    clear b1 Ha
    go_wp2
    go_ret
    exact ⟨rfl, B1.out⟩
  have hbig' : ¬ (100 : Int) < (n : Int) := by omega
  go_enter Try.func9, Try.ntmps9
  go_wp2_with fail
  refine Ha.out.mono ?_
  rintro e w1 ⟨rfl, b1⟩
  have B1 := Lib.hid b1
  clear b1 Ha
  go_wp2_with fail
  refine (netNew_any w1).mono ?_
  rintro e w2 ⟨sb, mb, rfl, n2, b2⟩
  have hz : Try.zeroCells66 = (cntL []).toArray := by kernel_rfl
  obtain ⟨w3, hw3⟩ : ∃ w3, w2.alloc (.cells Try.zeroCells66 66) = w3 := ⟨_, rfl⟩
  have b3 : Below w2.heap.size w2 w3 := hw3 ▸ below_box _
  have c3 : Box w3 w2.heap.size 66 (cntL []).toArray := by
    have h1 := Box.made w2 66 Try.zeroCells66
    rw [hw3] at h1
    rwa [hz] at h1
  have HS : Hid (CSt w w3 w1.heap.size sb mb w2.heap.size [] 0 0) := Lib.hid ⟨n2.below b3, c3, by simp, B1.out.trans ((b2.trans (b3.mono b2.size)).mono B1.out.size), B1.out.size, Nat.le_trans B1.out.size b2.size, Nat.le_trans b2.size b3.size⟩
  have HC2 : Hid (C ≤ w.heap.size) := Lib.hid hC
  clear n2 b2 b3 c3 hz hC hn hbig
  go_wp2
  clear hw3
  generalize hgc : w2.heap.size = gc at *
  clear hgc
  go_loopw [5, 6] (fun sv iv wr => ∃ (k s d : Nat) (E : List NEn), k ≤ n ∧ s ≤ k ∧ d ≤ k ∧ E.length ≤ k ∧ iv = .int .i64 (k : Int) ∧ sv = .int .i64 (s : Int) ∧ Hid (CSt w wr w1.heap.size sb mb gc E d s)) (fun _ iv _ => n - (intOf iv).toNat)
  case atStart => exact ⟨0, 0, 0, [], by omega, by omega, by omega, by simp, rfl, rfl, HS⟩
  case round =>
    clear HS
    obtain ⟨k, s, d, E, hk, hsk, hdk, hEk, rfl, rfl, HE⟩ := hrel
    by_cases hlt : k < n
    · have hk0 : (0 : Int) ≤ (k : Int) := by omega
      have hk1 : (k : Int) < (n : Int) := by omega
      obtain ⟨a, o, rfl, hab, ho, c0, -, c15, -, hwf⟩ := (HA.out wr HE.out.below).at_ hlt
      have hab' : a.block < C := hab
      obtain ⟨ok, oL, oAp, onp, ocp, oAi, oni, oci, on⟩ := o
      simp only at c0 c15 hwf
      have HWF := Lib.hid hwf
      have HCELL : Hid (∀ wx, Below w.heap.size w wx → wx.cell? (a.add (k * 16)) = some (.int .i64 ok) ∧ wx.cell? ⟨(a.add (k * 16)).block, (a.add (k * 16)).off + 15, none⟩ = some (.int .i64 on)) := Lib.hid fun wx hx => by
        have hb := HC2.out
        have k0 : wx.cell? (a.add (k * 16)) = wr.cell? (a.add (k * 16)) := (hx.cell (by rw [addr_block]; omega)).trans (HE.out.below.cell (by rw [addr_block]; omega)).symm
        have k1 : wx.cell? ⟨(a.add (k * 16)).block, (a.add (k * 16)).off + 15, none⟩ = wr.cell? ⟨(a.add (k * 16)).block, (a.add (k * 16)).off + 15, none⟩ := (hx.cell (by show (a.add (k * 16)).block < _; rw [addr_block]; omega)).trans (HE.out.below.cell (by show (a.add (k * 16)).block < _; rw [addr_block]; omega)).symm
        exact ⟨k0.trans c0, k1.trans c15⟩
      have Hlook := Lib.hid (netLook_any HE.out.net on hwf)
      clear ho hab hab' hwf
      go_wp2_with fail
      refine Hlook.out.mono ?_
      rintro e w4 ⟨Xp, cx, Xi, dx, rfl, -, -, -, b4⟩
      clear Hlook
      obtain ⟨X, hX⟩ : ∃ X, lookL on E = X := ⟨_, rfl⟩
      rw [hX]
      obtain ⟨w5, hw5⟩ : ∃ w5, (w4.alloc (.cells #[.int .i64 X.kind, .int .i64 X.frm, .int .i64 X.to, .int .i64 X.a, .int .i64 X.b, .int .i64 X.c, .int .i64 X.d, .string X.s, .string X.t, .slice Xp X.ps.length cx, .slice Xi X.is.length dx, .int .i64 X.code, .bool X.yes, .string X.body] 26)) = w5 := ⟨_, rfl⟩
      have b5 : Below w4.heap.size w4 w5 := hw5 ▸ below_box _
      have x5 : Box w5 w4.heap.size 26 #[.int .i64 X.kind, .int .i64 X.frm, .int .i64 X.to, .int .i64 X.a, .int .i64 X.b, .int .i64 X.c, .int .i64 X.d, .string X.s, .string X.t, .slice Xp X.ps.length cx, .slice Xi X.is.length dx, .int .i64 X.code, .bool X.yes, .string X.body] := hw5 ▸ Box.made _ _ _
      have HE5 : Hid (CSt w w5 w1.heap.size sb mb gc E d s) := Lib.hid ((HE.out.next b4).next b5)
      have x3 : w5.cell? ⟨w4.heap.size, 3, none⟩ = some (.int .i64 X.a) := x5.cell 3
      obtain ⟨c0, c15⟩ := HCELL.out w5 HE5.out.below
      clear b4 b5 x5 HE
      cases hg : getN on E with
      | none =>
        dsimp only [Option.isSome_none]
        clear hX x3
        by_cases h1 : ok = 1
        · subst h1
          have hss : (s : Int) + 1 ≤ 100 := by omega
          have hw1 : IntKind.i64.wrap ((s : Int) + 1) = (s : Int) + 1 := IntWalk.i64_in _ (by omega)
          have Hs := Lib.hid (sendA_any HE5.out.net HE5.out.lo.2.2 (by omega) ((s : Int) + 1))
          go_wp2_with fail
          refine Hs.out.mono ?_
          rintro e w6 hp
          obtain ⟨en, hn1, hL, rfl, n6, -, k6⟩ := hp.ok (lA_err _ ⟨by omega, by omega⟩) (by omega)
          have ha : en.L.a = ((s + 1 : Nat) : Int) := by rw [hL]; rfl
          have HM := Lib.hid (HE5.out.mid (E' := E ++ [en]) (s' := s + 1) k6 n6 (fun p hp => by
            rcases List.mem_append.1 hp with hp | hp
            · have := HE5.out.rng p hp; omega
            · simp at hp; subst hp; omega))
          obtain ⟨y0, f0⟩ := HM.out.at_ (a := s + 1) (by omega)
          have hcl := cN_le (s + 1) E
          have hw2 : IntKind.i64.wrap (cN (s + 1) E + 1) = cN (s + 1) E + 1 := IntWalk.i64_in _ (by omega)
          have HE6 := Lib.hid (HM.out.set (a := s + 1) (v := cN (s + 1) E + 1) (by rw [cN_add, if_pos ha]) (fun b hb => by rw [cN_add, if_neg (by rw [ha]; omega)]; omega))
          have hlen6 : (E ++ [en]).length ≤ k + 1 := by rw [List.length_append]; simp; omega
          generalize cN (s + 1) E = cv at *
          clear hn1 hL n6 k6 hp ha hcl Hs HM
          go_wp2
          go_roundw
          case rel => exact ⟨k + 1, s + 1, d + 1, E ++ [en], by omega, by omega, by omega, by omega, by go_num, by go_num, HE6⟩
          case measure => simp [intOf]; omega
        by_cases h2 : ok = 2
        · subst h2
          have Hd := Lib.hid (netDeliver_any HE5.out.net on HWF.out)
          go_wp2_with fail
          refine Hd.out.mono ?_
          rintro e w6 hp
          obtain ⟨-, rfl, n6, b6⟩ := hp.resolve_right (fun h => by obtain ⟨e1, h1, _⟩ := h; rw [hg] at h1; cases h1)
          have HE7 : Hid (CSt w (w6.alloc (.cells #[.int .i64 0, .int .i64 0, .int .i64 0, .int .i64 0, .int .i64 0, .int .i64 0, .int .i64 0, .string ⟨#[]⟩, .string ⟨#[]⟩, .slice none 0 0, .slice none 0 0, .int .i64 0, .bool false, .string ⟨#[]⟩] 26)) w1.heap.size sb mb gc E d s) := Lib.hid ((HE5.out.next b6).next (below_box _))
          clear n6 b6 hp Hd
          go_wp2
          go_roundw
          case rel => exact ⟨k + 1, s, d, E, by omega, by omega, by omega, by omega, by go_num, by go_num, HE7⟩
          case measure => simp [intOf]; omega
        by_cases h3 : ok = 3
        · subst h3
          have Hd := Lib.hid (netDrop_any HE5.out.net on HWF.out)
          go_wp2_with fail
          refine Hd.out.mono ?_
          rintro e w6 hp
          obtain ⟨-, rfl, n6, b6⟩ := hp.resolve_right (fun h => by obtain ⟨e1, h1, _⟩ := h; rw [hg] at h1; cases h1)
          have HE7 : Hid (CSt w w6 w1.heap.size sb mb gc E d s) := Lib.hid (HE5.out.next b6)
          clear n6 b6 hp Hd
          go_wp2
          go_roundw
          case rel => exact ⟨k + 1, s, d, E, by omega, by omega, by omega, by omega, by go_num, by go_num, HE7⟩
          case measure => simp [intOf]; omega
        by_cases h4 : ok = 4
        · subst h4
          have Hd := Lib.hid (netTwice_any HE5.out.net HE5.out.lo.2.2 (by omega) on HWF.out)
          go_wp2_with fail
          refine Hd.out.mono ?_
          rintro e w6 hp
          obtain ⟨-, rfl, n6, b6⟩ := hp.resolve_right (fun h => by obtain ⟨e1, h1, _⟩ := h; rw [hg] at h1; cases h1)
          have HE7 : Hid (CSt w w6 w1.heap.size sb mb gc E d s) := Lib.hid (HE5.out.next b6)
          clear n6 b6 hp Hd
          go_wp2
          go_roundw
          case rel => exact ⟨k + 1, s, d, E, by omega, by omega, by omega, by omega, by go_num, by go_num, HE7⟩
          case measure => simp [intOf]; omega
        have hb1 : (ok == 1) = false := by simpa using h1
        have hb2 : (ok == 2) = false := by simpa using h2
        have hb3 : (ok == 3) = false := by simpa using h3
        have hb4 : (ok == 4) = false := by simpa using h4
        clear h1 h2 h3 h4
        clear hg c15
        go_wp2
        go_roundw
        case rel => exact ⟨k + 1, s, d, E, by omega, by omega, by omega, by omega, by go_num, by go_num, HE5⟩
        case measure => simp [intOf]; omega
      | some e0 =>
        dsimp only [Option.isSome_some]
        obtain rfl : e0.L = X := by rw [← hX]; unfold lookL; rw [hg]
        obtain ⟨a', ha'⟩ : ∃ a' : Nat, e0.L.a = (a' : Int) := ⟨e0.L.a.toNat, by have := (HE5.out.rng e0 (getN_some hg).1).1; omega⟩
        have ha1 := HE5.out.rng e0 (getN_some hg).1
        rw [ha'] at ha1
        obtain ⟨n0, Ap0, cp0, Ai0, ci0, L0⟩ := e0
        obtain ⟨u0, u1, u2, u3, u4, u5, u6, u7, u8, u9, u10, u11, u12, u13⟩ := L0
        simp only at ha' x3
        subst ha'
        have ha2 : (0 : Int) ≤ (a' : Int) := by omega
        have ha3 : (a' : Int) ≤ (s : Int) := by omega
        clear hX ha1
        by_cases h1 : ok = 1
        · subst h1
          have hss : (s : Int) + 1 ≤ 100 := by omega
          have hw1 : IntKind.i64.wrap ((s : Int) + 1) = (s : Int) + 1 := IntWalk.i64_in _ (by omega)
          have Hs := Lib.hid (sendA_any HE5.out.net HE5.out.lo.2.2 (by omega) ((s : Int) + 1))
          go_wp2_with fail
          refine Hs.out.mono ?_
          rintro e w6 hp
          obtain ⟨en, hn1, hL, rfl, n6, -, k6⟩ := hp.ok (lA_err _ ⟨by omega, by omega⟩) (by omega)
          have ha : en.L.a = ((s + 1 : Nat) : Int) := by rw [hL]; rfl
          have HM := Lib.hid (HE5.out.mid (E' := E ++ [en]) (s' := s + 1) k6 n6 (fun p hp => by
            rcases List.mem_append.1 hp with hp | hp
            · have := HE5.out.rng p hp; omega
            · simp at hp; subst hp; omega))
          obtain ⟨y0, f0⟩ := HM.out.at_ (a := s + 1) (by omega)
          have hcl := cN_le (s + 1) E
          have hw2 : IntKind.i64.wrap (cN (s + 1) E + 1) = cN (s + 1) E + 1 := IntWalk.i64_in _ (by omega)
          have HE6 := Lib.hid (HM.out.set (a := s + 1) (v := cN (s + 1) E + 1) (by rw [cN_add, if_pos ha]) (fun b hb => by rw [cN_add, if_neg (by rw [ha]; omega)]; omega))
          have hlen6 : (E ++ [en]).length ≤ k + 1 := by rw [List.length_append]; simp; omega
          generalize cN (s + 1) E = cv at *
          clear hn1 hL n6 k6 hp ha hcl Hs HM
          go_wp2
          go_roundw
          case rel => exact ⟨k + 1, s + 1, d + 1, E ++ [en], by omega, by omega, by omega, by omega, by go_num, by go_num, HE6⟩
          case measure => simp [intOf]; omega
        by_cases h2 : ok = 2
        · subst h2
          have Hd := Lib.hid (netDeliver_any HE5.out.net on HWF.out)
          go_wp2_with fail
          refine Hd.out.mono ?_
          rintro e w6 hp
          rcases hp with ⟨h1, -⟩ | ⟨e1, h1, rfl, n6, -, k6⟩
          · rw [hg] at h1; cases h1
          rw [hg] at h1
          injection h1 with h1
          subst h1
          dsimp only
          obtain ⟨w7, hw7⟩ : ∃ w7, w6.alloc (.cells #[.int .i64 u0, .int .i64 u1, .int .i64 u2, .int .i64 (a' : Int), .int .i64 u4, .int .i64 u5, .int .i64 u6, .string u7, .string u8, .slice Ap0 u9.length cp0, .slice Ai0 u10.length ci0, .int .i64 u11, .bool u12, .string u13] 26) = w7 := ⟨_, rfl⟩
          have b7 : Below w6.heap.size w6 w7 := hw7 ▸ below_box _
          have y3 : w7.cell? ⟨w6.heap.size, 3, none⟩ = some (.int .i64 (a' : Int)) := by rw [← hw7]; exact (Box.made w6 26 _).cell 3
          have HM := Lib.hid ((HE5.out.mid (E' := delN on E) (s' := s) k6 n6 (fun p hp => HE5.out.rng p (List.mem_filter.1 hp).1)).next b7)
          obtain ⟨y0, f0⟩ := HM.out.at_ (a := a') (by omega)
          have hcl := cN_le a' E
          have hw2 : IntKind.i64.wrap (cN a' E - 1) = cN a' E - 1 := IntWalk.i64_in _ (by omega)
          have HE7 := Lib.hid (HM.out.set (a := a') (v := cN a' E - 1) (by rw [cN_del HE5.out.net.rise hg, if_pos rfl]) (fun b hb => by rw [cN_del HE5.out.net.rise hg, if_neg (by show ¬ (a' : Int) = (b : Int); omega)]; omega))
          have hlen6 : (delN on E).length ≤ k + 1 := by have := delN_lt hg; omega
          generalize cN a' E = cv at *
          clear n6 k6 hcl Hd HM b7 x3 hg
          go_wp2
          go_roundw
          case rel => exact ⟨k + 1, s, d, (delN on E), by omega, by omega, by omega, by omega, by go_num, by go_num, HE7⟩
          case measure => simp [intOf]; omega
        by_cases h3 : ok = 3
        · subst h3
          have Hd := Lib.hid (netDrop_any HE5.out.net on HWF.out)
          go_wp2_with fail
          refine Hd.out.mono ?_
          rintro e w6 hp
          rcases hp with ⟨h1, -⟩ | ⟨e1, h1, rfl, n6, k6⟩
          · rw [hg] at h1; cases h1
          have HM := Lib.hid (HE5.out.mid (E' := delN on E) (s' := s) k6 n6 (fun p hp => HE5.out.rng p (List.mem_filter.1 hp).1))
          obtain ⟨y0, f0⟩ := HM.out.at_ (a := a') (by omega)
          have hcl := cN_le a' E
          have hw2 : IntKind.i64.wrap (cN a' E - 1) = cN a' E - 1 := IntWalk.i64_in _ (by omega)
          have HE7 := Lib.hid (HM.out.set (a := a') (v := cN a' E - 1) (by rw [cN_del HE5.out.net.rise hg, if_pos rfl]) (fun b hb => by rw [cN_del HE5.out.net.rise hg, if_neg (by show ¬ (a' : Int) = (b : Int); omega)]; omega))
          have hlen6 : (delN on E).length ≤ k + 1 := by have := delN_lt hg; omega
          generalize cN a' E = cv at *
          clear n6 k6 hcl Hd HM x3 hg h1
          go_wp2
          go_roundw
          case rel => exact ⟨k + 1, s, d, (delN on E), by omega, by omega, by omega, by omega, by go_num, by go_num, HE7⟩
          case measure => simp [intOf]; omega
        by_cases h4 : ok = 4
        · subst h4
          have Hd := Lib.hid (netTwice_any HE5.out.net HE5.out.lo.2.2 (by omega) on HWF.out)
          go_wp2_with fail
          refine Hd.out.mono ?_
          rintro e w6 hp
          rcases hp with ⟨h1, -⟩ | ⟨e1, h1, hp⟩
          · rw [hg] at h1; cases h1
          rw [hg] at h1
          injection h1 with h1
          subst h1
          obtain ⟨-, en, hn1, hL, rfl, n6, -, k6⟩ := hp.resolve_left (fun h => by have := h.1; omega)
          have ha : en.L.a = (a' : Int) := by rw [hL]
          have HM := Lib.hid (HE5.out.mid (E' := E ++ [en]) (s' := s) k6 n6 (fun p hp => by
            rcases List.mem_append.1 hp with hp | hp
            · exact HE5.out.rng p hp
            · simp at hp; subst hp; rw [ha]; have := HE5.out.rng _ (getN_some hg).1; exact this))
          obtain ⟨y0, f0⟩ := HM.out.at_ (a := a') (by omega)
          have hcl := cN_le a' E
          have hw2 : IntKind.i64.wrap (cN a' E + 1) = cN a' E + 1 := IntWalk.i64_in _ (by omega)
          have HE7 := Lib.hid (HM.out.set (a := a') (v := cN a' E + 1) (by rw [cN_add, if_pos ha]) (fun b hb => by rw [cN_add, if_neg (by rw [ha]; omega)]; omega))
          have hlen6 : (E ++ [en]).length ≤ k + 1 := by rw [List.length_append]; simp; omega
          generalize cN a' E = cv at *
          clear hn1 hL n6 k6 hp ha hcl Hd HM x3 hg
          go_wp2
          go_roundw
          case rel => exact ⟨k + 1, s, d + 1, E ++ [en], by omega, by omega, by omega, by omega, by go_num, by go_num, HE7⟩
          case measure => simp [intOf]; omega
        have hb1 : (ok == 1) = false := by simpa using h1
        have hb2 : (ok == 2) = false := by simpa using h2
        have hb3 : (ok == 3) = false := by simpa using h3
        have hb4 : (ok == 4) = false := by simpa using h4
        clear h1 h2 h3 h4
        clear hg c15
        go_wp2
        go_roundw
        case rel => exact ⟨k + 1, s, d, E, by omega, by omega, by omega, by omega, by go_num, by go_num, HE5⟩
        case measure => simp [intOf]; omega
    · obtain rfl : k = n := by omega
      have hlt' : ¬ (k : Int) < (k : Int) := by omega
      have hU := netUnder_any HE.out.net (by omega)
      have HU := Lib.hid hU
      have hEl : E.length ≤ 100 := by omega
      clear hU hlt
      go_wp2_with fail
      refine HU.out.mono ?_
      rintro e w4 ⟨v, rfl, ov, b4⟩
      obtain ⟨Au, cu, rfl, -, hcu, -⟩ := own_sliceN ov
      have HE4 : Hid (CSt w w4 w1.heap.size sb mb gc E d s ∧ w4.ownsRow wr.heap.size 3 1 (.slice Au E.length cu) E.length ((E.map (·.n)).map encZ)) := Lib.hid ⟨HE.out.next b4, ov⟩
      have HB4 : Hid (w.heap.size ≤ wr.heap.size) := Lib.hid HE.out.below.size
      have HRI := Lib.hid HE.out.net.rise
      have HNU := Lib.hid HE.out.net.nums
      generalize wr.heap.size = bu at *
      clear ov b4 HU HE
      go_wp2
      go_loopw [17] (fun iv wr => ∃ j : Nat, j ≤ E.length ∧ iv = .int .i64 (j : Int) ∧ Hid (CSt w wr w1.heap.size sb mb gc (E.drop j) d s ∧ wr.ownsRow bu 3 1 (.slice Au E.length cu) E.length ((E.map (·.n)).map encZ))) (fun iv _ => E.length - (intOf iv).toNat)
      case atStart => exact ⟨0, by omega, rfl, HE4⟩
      case round =>
        clear HE4
        obtain ⟨j, hj, rfl, HE⟩ := hrel
        by_cases hlt : j < E.length
        · have hj0 : (0 : Int) ≤ (j : Int) := by omega
          have hj1 : (j : Int) < (E.length : Int) := by omega
          obtain ⟨e0, he0⟩ : ∃ e0, E[j]? = some e0 := ⟨_, List.getElem?_eq_getElem hlt⟩
          have hdrop : E.drop j = e0 :: E.drop (j + 1) := by
            rw [List.drop_eq_getElem_cons hlt]
            rw [List.getElem?_eq_getElem hlt] at he0
            injection he0 with he0
            rw [he0]
          obtain ⟨A9, c9, e9, -, -, hh⟩ := own_sliceN HE.out.2
          injection e9 with e9 _ e9'
          subst e9
          obtain ⟨au, rfl, -, hall⟩ := hh.all (by omega)
          have z0 : wr.cell? (au.add j) = some (.int .i64 e0.n) := hall j _ (by simp [he0])
          have hmem : e0 ∈ E := List.mem_of_getElem? he0
          have hg : getN e0.n (E.drop j) = some e0 := by rw [hdrop]; simp [getN]
          have hdel : delN e0.n (E.drop j) = E.drop (j + 1) := by
            have hr : (e0 :: E.drop (j + 1)).Pairwise fun p q => p.n < q.n := hdrop ▸ HE.out.1.net.rise
            rw [hdrop]
            unfold delN
            rw [List.filter_cons, if_neg (by simp)]
            exact delN_none fun p hp e => by have := (List.pairwise_cons.1 hr).1 p hp; omega
          have hnn := HNU.out e0 hmem
          have hd9 : (d : Int) ≤ 100 := by omega
          have Hd := Lib.hid (netDeliver_any HE.out.1.net e0.n (wf_small e0.n (by omega) (by omega)))
          have hra := HE.out.1.rng e0 (by rw [hdrop]; simp)
          obtain ⟨a', ha'⟩ : ∃ a' : Nat, e0.L.a = (a' : Int) := ⟨e0.L.a.toNat, by omega⟩
          rw [ha'] at hra
          obtain ⟨n0, Ap0, cp0, Ai0, ci0, L0⟩ := e0
          obtain ⟨u0, u1, u2, u3, u4, u5, u6, u7, u8, u9, u10, u11, u12, u13⟩ := L0
          simp only at ha' z0 hg hdel Hd
          subst ha'
          have ha2 : ¬ (a' : Int) < 1 := by omega
          have ha3 : ¬ (s : Int) < (a' : Int) := by omega
          clear e9' hh hall hnn he0 hmem
          go_wp2_with fail
          refine Hd.out.mono ?_
          rintro e w6 hp
          rcases hp with ⟨h1, -⟩ | ⟨e1, h1, rfl, n6, -, k6⟩
          · rw [hg] at h1; cases h1
          rw [hg] at h1
          injection h1 with h1
          subst h1
          rw [hdel] at n6
          dsimp only
          obtain ⟨w7, hw7⟩ : ∃ w7, w6.alloc (.cells #[.int .i64 u0, .int .i64 u1, .int .i64 u2, .int .i64 (a' : Int), .int .i64 u4, .int .i64 u5, .int .i64 u6, .string u7, .string u8, .slice Ap0 u9.length cp0, .slice Ai0 u10.length ci0, .int .i64 u11, .bool u12, .string u13] 26) = w7 := ⟨_, rfl⟩
          have b7 : Below w6.heap.size w6 w7 := hw7 ▸ below_box _
          have y3 : w7.cell? ⟨w6.heap.size, 3, none⟩ = some (.int .i64 (a' : Int)) := by rw [← hw7]; exact (Box.made w6 26 _).cell 3
          have HM := Lib.hid ((HE.out.1.mid (E' := E.drop (j + 1)) (s' := s) k6 n6 (fun p hp => HE.out.1.rng p (by rw [hdrop]; exact List.mem_cons_of_mem _ hp))).next b7)
          have hrow7 := own_belowN (HE.out.1.net.rowKept k6 HE.out.2 (by decide)) b7
          obtain ⟨y0, f0⟩ := HM.out.at_ (a := a') (by omega)
          have hcl := cN_le a' (E.drop j)
          have hcl2 : (E.drop j).length ≤ 100 := by rw [List.length_drop]; omega
          have hw2 : IntKind.i64.wrap (cN a' (E.drop j) - 1) = cN a' (E.drop j) - 1 := IntWalk.i64_in _ (by omega)
          have hset := HM.out.set (a := a') (v := cN a' (E.drop j) - 1) (by rw [← hdel, cN_del HE.out.1.net.rise hg, if_pos rfl]) (fun b hb => by rw [← hdel, cN_del HE.out.1.net.rise hg, if_neg (by show ¬ (a' : Int) = (b : Int); omega)]; omega)
          have gr : w7.grownBy (w7.setCell ⟨gc, a', none⟩ (.int .i64 (cN a' (E.drop j) - 1))) (some gc) := ⟨rfl, rfl, rfl, by simp, fun k _ hne => Below.heap_setCell w7 ⟨gc, a', none⟩ _ k (fun e => hne (by rw [e]))⟩
          have HE7 : Hid (CSt w (w7.setCell ⟨gc, a', none⟩ (.int .i64 (cN a' (E.drop j) - 1))) w1.heap.size sb mb gc (E.drop (j + 1)) d s ∧ (w7.setCell ⟨gc, a', none⟩ (.int .i64 (cN a' (E.drop j) - 1))).ownsRow bu 3 1 (.slice (some au) E.length cu) E.length ((E.map (·.n)).map encZ)) := Lib.hid
            ⟨hset, own_grownT hrow7 gr (own_box_ne hrow7 HM.out.cnt (by decide))⟩
          generalize cN a' (E.drop j) = cv at *
          clear n6 k6 hcl hcl2 Hd HM b7 hrow7 hset gr hg hdel hdrop hra HE z0
          go_wp2
          go_roundw
          case rel => exact ⟨j + 1, by omega, by go_num, HE7⟩
          case measure => simp [intOf]; omega
        · obtain rfl : j = E.length := by omega
          have hd0 : E.drop E.length = [] := List.drop_length
          have HE0 : Hid (CSt w wr w1.heap.size sb mb gc [] d s) := Lib.hid (hd0 ▸ HE.out.1)
          have hlt2 : ¬ (E.length : Int) < (E.length : Int) := by omega
          clear HE hlt hd0
          go_wp2
          generalize wr = w8 at *
          go_loopw [20] (fun iv wr => ∃ i : Nat, i ≤ 101 ∧ iv = .int .i64 (i : Int) ∧ wr = w8) (fun iv _ => 101 - (intOf iv).toNat)
          case atStart => exact ⟨0, by omega, rfl, rfl⟩
          case round =>
            obtain ⟨i, hi, rfl, rfl⟩ := hrel
            by_cases hlt : i < 101
            · have hi0 : (0 : Int) ≤ (i : Int) := by omega
              have hi1 : (i : Int) < 101 := by omega
              have y0 : wr.cell? ⟨gc, i, none⟩ = some (.int .i64 0) := (HE0.out.at_ hlt).1
              go_wp2
              go_roundw
              case rel => exact ⟨i + 1, by omega, by go_num, trivial⟩
              case measure => simp [intOf]; omega
            · obtain rfl : i = 101 := by omega
              have Hl := Lib.hid (netLen_any HE0.out.net)
              go_wp2_with fail
              refine Hl.out.mono ?_
              rintro e w9 ⟨rfl, b9⟩
              have HF := Lib.hid (HE0.out.below.trans (b9.mono HE0.out.below.size))
              clear b9 Hl
              go_wp2
              go_ret
              exact ⟨rfl, HF.out⟩

namespace lawNetCounts
open Go.ChangeShapes Go.WideShapes Go.ChangeAt

theorem own : ownKnob Try.prog.godebug = none := by kernel_rfl
theorem kids : Kids Try.prog (· < Try.prog.types.size) := kids_rows (by kernel_rfl) (by kernel_rfl)
theorem full : ∀ t e, t < Try.prog.types.size → Try.prog.underlying t = some (.slice e) → 0 < Try.prog.cellsOf e := slices_full_of Try.prog (by kernel_rfl)

set_option maxRecDepth 100000 in
theorem lifted (os : Os) (started : os.Started) (H : Type) (enc : TypeId × Value → H) :
    ReturnsInHanded {} Try.checked os 9 .any (Rows.netCountsSpec.pre6 enc Try.prog Try.f9 Rows.netCountsRow.domain false) (Rows.netCountsSpec.post enc Try.prog Try.f9 false true false false) := by
  refine returnsInHanded_of_change_sized (C := Try.checked) own started (by kernel_rfl) Try.func9
    (ChangeSpec.witness6 (enc := enc) (C := Try.checked) false ⟨#[], #[.slice none 0 0], []⟩ 8 (by kernel_rfl) (by kernel_rfl) (by kernel_rfl) (by kernel_rfl)) ?_
  intro W base args ds gs before hval0 hW _ hz _
  have hval : ∀ (j : Nat) t v, Try.f9.params[j]? = some t → args[j]? = some v → Value.okWide Try.prog W .any base t v := hval0
  have hW' := hW
  obtain ⟨p, q, hA0, hV, rfl, _, _⟩ := hW
  obtain ⟨rfl, rfl⟩ := trodVars_none hV
  have hA : DataW.TrodAll enc Try.prog W 0 (fun _ => true) true Try.f9.params.toList args.toList ds p := hA0
  rw [Try.params9] at hA hval
  obtain ⟨v0, vs0, d0, ds0, p0, q0, hargs, rfl, rfl, h0, r0⟩ := trodAll_cons hA
  obtain ⟨rfl, rfl, rfl⟩ := trodAll_nil r0
  obtain rfl : args = #[v0] := by cases args; simp_all
  have hlt := hW'.lt
  obtain ⟨A0, n0, c0, l0, rfl, hnc0, hm0, ha0⟩ := open_actsN (hval 0 41 v0 rfl rfl) h0 (fun k hk => of_decide_eq_true (List.all_eq_true.1 hz _ (DataW.weights_mem_each (j := 0) (d := d0) rfl rfl k hk))) (fun x hx => hlt x (by simp [hx]))
  refine (counts_walk A0 n0 c0 l0 W.heap.size W ha0 (Nat.le_refl _) (Nat.le_trans hnc0 hm0)).mono fun e W' ⟨he, hbel⟩ => ?_
  subst he
  exact ⟨_, rfl, law_post kids full (of_decide_eq_true (by kernel_rfl)) Try.underlying4 rfl rfl rfl hW' hbel⟩

theorem proved : Rows.NetCountsSaid :=
  OpenClaim.holds_of_wide 9 Try.f9 rfl rfl rfl rfl rfl rfl rfl ⟨rfl, rfl, rfl, rfl, rfl⟩ rfl rfl rfl rfl rfl (by kernel_rfl) Try.func9 (by kernel_rfl)
    (of_decide_eq_true (by kernel_rfl)) (by unfold Func.isWrapper; first | (rw [if_pos (by decide +kernel)]; kernel_rfl) | (rw [if_neg (by decide +kernel)]; exact ⟨rfl, rfl⟩))
    (fun os started H enc _ => lifted os started H enc)
end lawNetCounts

end Go.Proofs.Ytabcoidjbigdbaa

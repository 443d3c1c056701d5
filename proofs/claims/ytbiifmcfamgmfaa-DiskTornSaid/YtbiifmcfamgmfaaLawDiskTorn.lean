/- The law DiskTorn: for every input it returns true and leaves what it was given. No condition. -/
import Derived.Test.YtbiifmcfamgmfaaDskJ
import Derived.Test.YtbiifmcfamgmfaaOpenRs
namespace Go.Proofs.Ytbiifmcfamgmfaa
open Go.RowKit
open Go.Lib (strCells)

section
open Go.ChangeShapes Go.WideShapes Go.ChangeAt
variable {H : Type} {enc : TypeId × Value → H} {P : Program} {W : World}
theorem open_u8 {t : TypeId} {r : Reach} {base : Nat} {v : Value} {d : DataW H} {ps : List MemPlace} (ht : P.underlying t = some (.int .u8))
    (hval : Value.okWide P W r base t v) (h : DataW.Trod enc P W 0 (fun _ => true) true t v d ps) : ∃ y : UInt8, v = .int .u8 (y.toNat : Int) := by
  obtain ⟨n, rfl, _, _, wf⟩ := open_int ht hval h
  simp [Lit.wf, IntKind.min, IntKind.max, IntKind.signed, IntKind.bits] at wf
  refine ⟨UInt8.ofNat n.toNat, ?_⟩
  rw [UInt8.toNat_ofNat', Nat.mod_eq_of_lt (by omega), Int.toNat_of_nonneg (by omega)]
end

set_option maxHeartbeats 6400000 in
theorem diskTorn_walk (A : Option Addr) (n c : Nat) (rs : Brs) (which at_ : Int) (y : UInt8) (w : World) (h : HasRs w w.heap.size A n rs) (hn : n ≤ maxLen) (hnc : n ≤ c) :
    Calls Try.prog 5 #[.slice A n c, .int .i64 which, .int .i64 at_, .int .u8 (y.toNat : Int)] w fun e w' => e = .returned (.bool true) ∧ Below w.heap.size w w' := by
  have H := Lib.hid h
  have Hn := Lib.hid hn
  have HL := Lib.hid (brLists_at h)
  obtain ⟨L, hL⟩ : ∃ L, brLists rs = L := ⟨_, rfl⟩
  have HLe := Lib.hid hL
  rw [hL] at HL
  clear h hn hL
  go_enter Try.func5, Try.ntmps5
  go_wp2_with fail
  refine (awake_any _).mono ?_
  rintro e w1 ⟨rfl, hb1⟩
  have Hb1 := Lib.hid hb1
  have H1 := Lib.hid (H.out.belowOf hb1 (Nat.le_refl _))
  clear hb1
  go_wp2_with fail
  refine (bulk_any 4000 A n c w.heap.size rs w1 H1.out (by omega) Hn.out).mono ?_
  rintro e w2 ⟨⟨m, rfl, hm⟩, rfl⟩
  rw [HLe.out] at hm
  have Hm := Lib.hid hm
  clear hm
  by_cases hmm : 4000 < m
  · go_wp2
    go_ret
    exact ⟨rfl, Hb1.out⟩
  by_cases hn6 : 60 < n
  · go_wp2
    go_ret
    exact ⟨rfl, Hb1.out⟩
  by_cases hw0 : which < 0
  · go_wp2
    go_ret
    exact ⟨rfl, Hb1.out⟩
  by_cases hwn : (n : Int) ≤ which
  · go_wp2
    go_ret
    exact ⟨rfl, Hb1.out⟩
  obtain ⟨k, rfl⟩ : ∃ k : Nat, which = (k : Int) := ⟨which.toNat, by omega⟩
  by_cases ha4 : at_ < 4
  · go_wp2
    go_ret
    exact ⟨rfl, Hb1.out⟩
  obtain ⟨j, rfl⟩ : ∃ j : Nat, at_ = (j : Int) := ⟨at_.toNat, by omega⟩
  have hkn : k < n := by omega
  obtain ⟨a, Az, z, cz, l, rfl, _, hlk, hzc, hcm, hbl, hc⟩ := H1.out.at_ hkn
  rw [HLe.out] at hlk
  have hzl : l.length = z := hbl.len
  have hbulk := Hm.out (by omega)
  have hLn := bulk_len L
  rw [HL.out] at hLn
  have Hsz : Hid (∀ k, begD L k ≤ 36000) := Lib.hid fun k => by have := begD_le L k; rw [HL.out] at this; omega
  have Hmem : Hid (∀ l ∈ L, l.length ≤ 4000) := Lib.hid fun l hl => by have := bulk_mem hl; omega
  have hz4 : z ≤ 4000 := by rw [← hzl]; exact Hmem.out l (List.mem_of_getElem? hlk)
  have k0 : (0 : Int) ≤ (k : Int) := by omega
  have k1 : (k : Int) < (n : Int) := by omega
  have Hlk := Lib.hid hlk
  have Hzl := Lib.hid hzl
  have Hc := Lib.hid hc
  clear hlk hzl hbulk hLn Hm hzc hcm hbl
  by_cases haz : 8 + (z : Int) ≤ (j : Int)
  · go_wp2
    go_ret
    exact ⟨rfl, Hb1.out⟩
  by_cases hy : y = 0
  · subst hy
    have hy0 : ((UInt8.toNat 0 : Nat) : Int) = 0 := rfl
    go_wp2
    go_ret
    exact ⟨rfl, Hb1.out⟩
  have hyb : ((y.toNat : Int) == 0) = false := by
    have : y.toNat ≠ 0 := fun e => hy (UInt8.toNat_inj.1 e)
    simp
    omega
  have Hy := Lib.hid hy
  clear hy
  go_wp2_with fail
  refine (new_law 4194304 w.heap.size w w1 (by omega) Hb1.out (Nat.le_refl _)).mono ?_
  rintro e w2 ⟨sb, rfl, hz, hb2⟩
  have Hz := Lib.hid hz
  have Hb2 := Lib.hid hb2
  clear hz hb2 hc
  go_wp2_with fail
  refine (start0_law Hz.out Hb2.out (Nat.le_refl _)).mono ?_
  rintro e w3 ⟨s3, v3, rfl, h3⟩
  have H3 := Lib.hid (h3.eq (appSt_zero 4194304 [] [] L).symm)
  clear h3
  go_wp2_with fail
  go_loopw [11, 12] (fun p i wr => ∃ q : Nat, q ≤ n ∧ i = .int .i64 (q : Int) ∧ p = .int .i64 (begD L (min q k) : Int) ∧ After w.heap.size sb w (appSt 4194304 [] [] L q) wr) (fun _ i _ => n - (intOf i).toNat)
  case atStart => exact ⟨0, by omega, rfl, by rw [Nat.min_eq_left (by omega), begD_zero]; rfl, H3.out⟩
  case round =>
    obtain ⟨q, hq, rfl, rfl, ha⟩ := hrel
    have Ha := Lib.hid ha
    clear ha
    by_cases hlt : q < n
    · obtain ⟨a', Aq, zq, cq, lq, hae, _, hlk, hzc, hcm, hbl, hc⟩ := (H.out.belowOf Ha.out.below (Nat.le_refl _)).at_ hlt
      injection hae with hae
      subst hae
      rw [HLe.out] at hlk
      have hzl : lq.length = zq := hbl.len
      have hzq4 : zq ≤ 4000 := by rw [← hzl]; exact Hmem.out lq (List.mem_of_getElem? hlk)
      have q0 : (0 : Int) ≤ (q : Int) := by omega
      have q1 : (q : Int) < (n : Int) := by omega
      have hbk := Hsz.out q
      have hbm := Hsz.out (min q k)
      have Hap := Lib.hid (append_law Ha.out rfl rfl Aq zq cq w.heap.size lq hbl Ha.out.below.size (by omega) (by simp [appSt]) (by rw [appSt_len]; simp only [List.length_nil]; omega) (by rw [appSt_waits]; omega) (by rw [appSt_used]; simp only [List.length_nil, takenN_nil]; show _ ≤ 4194304; omega))
      have Hs := Lib.hid (appSt_succ (room := 4194304) (C := []) (F := []) hlk)
      have Hbs := Lib.hid (begD_succ hlk)
      have Hzq := Lib.hid hzl
      obtain ⟨X, hX⟩ : ∃ X, begD L (min q k) = X := ⟨_, rfl⟩
      have HX := Lib.hid hX
      have Hcq := Lib.hid hc
      rw [hX] at hbm ⊢
      have Hwa := Lib.hid Ha.out.below.size
      clear hlk hzl hzc hcm hbl hbk hX
      go_wp2_with fail
      refine Hap.out.mono ?_
      rintro e w4 ⟨rfl, h4⟩
      have H4 := Lib.hid (h4.eq Hs.out)
      have hc4 : w4.cell? (a.add q) = some (.slice Aq zq cq) := by
        obtain ⟨a2, A2, z2, c2, l2, hae, _, hlk2, _, _, hbl2, hc2⟩ := (H.out.belowOf h4.below (Nat.le_refl _)).at_ hlt
        injection hae with hae
        subst hae
        obtain ⟨a3, A3, z3, c3, l3, hae, hab, hlk3, _, _, hbl3, hc3⟩ := H.out.at_ hlt
        injection hae with hae
        subst hae
        have e1 := (h4.below.cell (p := a.add q) (by rw [addr_block]; exact hab)).symm.trans hc2
        have e2 := (Ha.out.below.cell (p := a.add q) (by rw [addr_block]; exact hab)).symm.trans Hcq.out
        rw [e1] at e2
        exact hc2.trans e2
      clear h4 hc
      by_cases hqk : q < k
      · have hqi : (q : Int) < (k : Int) := by omega
        go_wp2
        go_roundw
        case rel => exact ⟨q + 1, by omega, by go_num, by rw [Nat.min_eq_left (by omega), Hbs.out, Hzq.out, ← HX.out, Nat.min_eq_left (by omega)]; go_num, H4.out⟩
        case measure => simp [intOf]; omega
      · have hqi : (k : Int) ≤ (q : Int) := by omega
        go_wp2
        go_roundw
        case rel => exact ⟨q + 1, by omega, by go_num, by rw [Nat.min_eq_right (by omega), ← HX.out, Nat.min_eq_right (by omega)], H4.out⟩
        case measure => simp [intOf]; omega
    · obtain rfl : q = n := by omega
      obtain ⟨X, hX⟩ : ∃ X, begD L k = X := ⟨_, rfl⟩
      rw [Nat.min_eq_right (by omega : k ≤ q), hX]
      have hX36 : X ≤ 36000 := by rw [← hX]; exact Hsz.out k
      have hF : (frames L).length ≤ 36000 := by
        have := Hsz.out L.length
        unfold begD at this
        rwa [List.take_length] at this
      have hXF : X + (8 + z) ≤ (frames L).length := by
        have h1 := begD_succ Hlk.out
        rw [hX, Hzl.out] at h1
        have h2 : begD L (k + 1) ≤ (frames L).length := by
          unfold begD
          conv => rhs; rw [← List.take_append_drop (k + 1) L, frames_app, List.length_append]
          omega
        omega
      have HF := Lib.hid hF
      have HX := Lib.hid hX
      have HXF := Lib.hid hXF
      clear hX hF hXF
      go_wp2_with fail
      refine (sync_law Ha.out rfl).mono ?_
      rintro e w4 ⟨rfl, h4⟩
      have H4 := Lib.hid (h4.eq (S' := ⟨4194304, true, [], frames L, [], true⟩) (by simp only [appSt, List.nil_append]; rw [List.take_of_length_le (by rw [HL.out]; exact Nat.le_refl _)]))
      clear h4
      obtain ⟨x, hx⟩ : ∃ x, (frames L)[X + j]? = some x := ⟨_, List.getElem?_eq_getElem (by have := HXF.out; omega)⟩
      have Hx := Lib.hid hx
      clear hx
      have Hfl := Lib.hid (fun qq hq => flip_law H4.out rfl qq (X + j) hq y x Hx.out)
      go_wp2_with fail
      refine (Hfl.out _ (by omega)).mono ?_
      rintro e w5 ⟨rfl, h5⟩
      have H5 := Lib.hid h5
      clear h5
      go_wp2_with fail
      refine (flip_neg (-1) (by omega) _).mono ?_
      rintro e w6 ⟨rfl, rfl⟩
      go_wp2_with fail
      refine (crashAll_law H5.out rfl 0 0 0 rfl (by simp)).mono ?_
      rintro e w6 ⟨rfl, h6⟩
      have H6 := Lib.hid h6
      clear h6
      go_wp2_with fail
      refine (start_law H6.out rfl (by simp only [List.length_set]; have := HF.out; omega) (by simp)).mono ?_
      rintro e w7 ⟨s7, v7, rs7, rfl, h7, hown, hl⟩
      have hts := torn_scan (L := L) (k := k) (j := j) (l := l) (fun p hp => by have := Hmem.out p hp; omega) Hlk.out (by omega) (by rw [Hzl.out]; omega) x y (by rw [HX.out]; exact Hx.out) Hy.out
      rw [HX.out] at hts
      simp only [hts] at hl h7
      obtain ⟨Av, cv, rfl, -, -, hrs⟩ := hown.has
      have hlr : rs7.length = k := by
        have := congrArg List.length hl
        rw [List.length_take, HL.out] at this
        simp [brLists] at this
        omega
      rw [hlr] at hrs ⊢
      have hsame := Lib.hid (rsame_any Av (some a) k k cv c _ _ _ _ w7 hrs ((H.out.take (k := k) (by omega)).belowOf h7.below (Nat.le_refl _)) (Nat.le_refl _) h7.below.size (by simp only [maxLen]; omega))
      rw [decide_eq_true (by rw [brLists_take, hl, HLe.out])] at hsame
      have H7 := Lib.hid h7
      clear h7 hl hrs hown hlr hts
      have g2 : (k : Int) ≤ (c : Int) := by omega
      go_wp2_with fail
      refine hsame.out.mono ?_
      rintro e w8 ⟨rfl, hb8⟩
      have H8 := Lib.hid (H7.out.more hb8)
      clear hb8 hsame
      have Hu := Lib.hid (used_law H8.out (by simp) (by simp only [List.length_take, List.length_set]; have := HF.out; omega) 0)
      go_wp2_with fail
      refine Hu.out.mono ?_
      rintro e w9 ⟨rfl, md, rfl⟩
      have hu : DState.used { room := 4194304, on := true, C := [], L := List.take X ((frames L).set (X + j) (x ^^^ y)), W := [], k := false } = X := by
        simp only [DState.used, takenN_nil, List.length_take, List.length_set]
        have := HXF.out
        omega
      go_wp2
      go_ret
      exact ⟨rfl, ((H8.out.drew 0).drew md).below⟩

namespace lawDiskTorn
open Go.ChangeShapes Go.WideShapes Go.ChangeAt

theorem own : ownKnob Try.prog.godebug = none := by kernel_rfl
theorem kids : Kids Try.prog (· < Try.prog.types.size) := kids_rows (by kernel_rfl) (by kernel_rfl)
theorem full : ∀ t e, t < Try.prog.types.size → Try.prog.underlying t = some (.slice e) → 0 < Try.prog.cellsOf e := slices_full_of Try.prog (by kernel_rfl)

set_option maxRecDepth 100000 in
theorem lifted (os : Os) (started : os.Started) (H : Type) (enc : TypeId × Value → H) :
    ReturnsInHanded {} Try.checked os 5 .any (Rows.diskTornSpec.pre6 enc Try.prog Try.f5 Rows.diskTornRow.domain false) (Rows.diskTornSpec.post enc Try.prog Try.f5 false true false false) := by
  refine returnsInHanded_of_change (C := Try.checked) own started (by kernel_rfl) Try.func5
    (ChangeSpec.witness6 (enc := enc) (C := Try.checked) false ⟨#[], #[.slice none 0 0, .int .i64 0, .int .i64 0, .int .u8 0], []⟩ 8 (by kernel_rfl) (by kernel_rfl) (by kernel_rfl) (by kernel_rfl)) ?_
  intro W base args ds gs before hval0 hW _ _
  have hval : ∀ (j : Nat) t v, Try.f5.params[j]? = some t → args[j]? = some v → Value.okWide Try.prog W .any base t v := hval0
  have hW' := hW
  obtain ⟨p, q, hA0, hV, rfl, _, _⟩ := hW
  obtain ⟨rfl, rfl⟩ := trodVars_none hV
  have hA : DataW.TrodAll enc Try.prog W 0 (fun _ => true) true Try.f5.params.toList args.toList ds p := hA0
  rw [Try.params5] at hA hval
  obtain ⟨v0, vs0, d0, ds0, p0, q0, hargs, rfl, rfl, h0, r0⟩ := trodAll_cons hA
  obtain ⟨v1, vs1, d1, ds1, p1, q1, rfl, rfl, rfl, h1, r1⟩ := trodAll_cons r0
  obtain ⟨v2, vs2, d2, ds2, p2, q2, rfl, rfl, rfl, h2, r2⟩ := trodAll_cons r1
  obtain ⟨v3, vs3, d3, ds3, p3, q3, rfl, rfl, rfl, h3, r3⟩ := trodAll_cons r2
  obtain ⟨rfl, rfl, rfl⟩ := trodAll_nil r3
  obtain rfl : args = #[v0, v1, v2, v3] := by cases args; simp_all
  have hlt := hW'.lt
  obtain ⟨A0, n0, c0, rs0, rfl, hn0, hnc0, hb0⟩ := open_rs Try.underlying22 (by kernel_rfl) Try.underlying29 Try.underlying5 (by kernel_rfl) (hval 0 22 v0 rfl rfl) h0 (fun x hx => hlt x (by simp [hx]))
  obtain ⟨k1, rfl, _, _, _⟩ := open_int Try.underlying3 (hval 1 3 v1 rfl rfl) h1
  obtain ⟨k2, rfl, _, _, _⟩ := open_int Try.underlying3 (hval 2 3 v2 rfl rfl) h2
  obtain ⟨y3, rfl⟩ := open_u8 Try.underlying5 (hval 3 5 v3 rfl rfl) h3
  refine (diskTorn_walk A0 n0 c0 rs0 k1 k2 y3 W hb0 hn0 hnc0).mono fun e W' ⟨he, hbel⟩ => ?_
  subst he
  exact ⟨_, rfl, law_post kids full (of_decide_eq_true (by kernel_rfl)) Try.underlying4 rfl rfl rfl hW' hbel⟩

theorem proved : Rows.DiskTornSaid :=
  OpenClaim.holds_of_wide 5 Try.f5 rfl rfl rfl rfl rfl rfl rfl ⟨rfl, rfl, rfl, rfl, rfl⟩ rfl rfl rfl rfl rfl (by kernel_rfl) Try.func5 (by kernel_rfl)
    (of_decide_eq_true (by kernel_rfl)) (by unfold Func.isWrapper; first | (rw [if_pos (by decide +kernel)]; kernel_rfl) | (rw [if_neg (by decide +kernel)]; exact ⟨rfl, rfl⟩))
    (fun os started H enc _ => lifted os started H enc)
end lawDiskTorn

end Go.Proofs.Ytbiifmcfamgmfaa

/- The law PlainCas: for every input it returns true and leaves what it was given. No condition. -/
import Derived.Test.YtheojndkojagdaaGreatMPlnB
import Derived.Test.YtheojndkojagdaaGreatRow
namespace Go.Proofs.YtheojndkojagdaaGreat
open Go.RowKit
open Go.Lib (strCells compareBytes)

set_option maxRecDepth 100000 in
set_option maxHeartbeats 12800000 in
theorem plainCas_walk (v : Value) (l : List TOp) (key : ByteArray) (A1 A2 A3 : Option Addr) (n1 c1 n2 c2 n3 c3 : Nat) (old one two : List TVal) (w : World) (ho : IsOps w w.heap.size v l) (hsh : ∀ o ∈ l, OpShort o)
    (h1 : IsVals w w.heap.size (.slice A1 n1 c1) old) (h2 : IsVals w w.heap.size (.slice A2 n2 c2) one) (h3 : IsVals w w.heap.size (.slice A3 n3 c3) two) (s1 : ∀ u ∈ old, u.s.size ≤ maxLen) (s2 : ∀ u ∈ one, u.s.size ≤ maxLen) (s3 : ∀ u ∈ two, u.s.size ≤ maxLen) (hk : key.size ≤ maxLen) :
    Calls Tryz.prog 6 #[v, .string key, .slice A1 n1 c1, .slice A2 n2 c2, .slice A3 n3 c3] w fun e w' => e = .returned (.bool true) ∧ Below w.heap.size w w' := by
  have Ho := Lib.hid ho
  have Hsh := Lib.hid hsh
  have H1 := Lib.hid h1
  have H2 := Lib.hid h2
  have H3 := Lib.hid h3
  have Hs := Lib.hid (And.intro s1 (And.intro s2 (And.intro s3 hk)))
  obtain ⟨A, n, c, rfl, -, -, hops⟩ := ho
  have Hops := Lib.hid hops
  have Hlen := Lib.hid hops.1
  clear hsh h1 h2 h3 s1 s2 s3 hk hops
  go_enter Tryz.func6, Tryz.ntmps6
  go_wp2_with fail
  refine (awake_any _).mono ?_
  rintro e w1 ⟨rfl, hb1⟩
  have Hb1 := Lib.hid hb1
  go_wp2_with fail
  refine (allLight_any _ l w.heap.size 60 w1 hb1.size (Ho.out.belowOf hb1 (Nat.le_refl _)) Hsh.out (by omega)).mono ?_
  rintro e w2 ⟨b, rfl, hb2, hlen⟩
  have Hb2 := Lib.hid (Below.then hb1 hb2)
  cases b with
  | false => go_wp2; go_ret; exact ⟨rfl, Hb2.out⟩
  | true =>
    have Hl60 := Lib.hid (hlen rfl)
    clear hlen hb1 hb2
    have Hlight := Lib.hid (fun wx (hb : Below w.heap.size w wx) => lightOp_any _ ⟨0, key, ⟨#[]⟩, one, old, 0, [], two, [], 0, 0, 0⟩ w.heap.size wx hb.size ⟨_, _, .slice none 0 0, _, .slice none 0 0, rfl, H2.out.belowOf hb (Nat.le_refl _), H1.out.belowOf hb (Nat.le_refl _), isInts_nil _ _, H3.out.belowOf hb (Nat.le_refl _), isVals_nil _ _⟩
      ⟨Hs.out.2.1, Hs.out.1, Hs.out.2.2.1, by simp, Hs.out.2.2.2, by simp [maxLen, ByteArray.size], by unfold InI64; dsimp only; omega, by unfold InI64; dsimp only; omega, by unfold InI64; dsimp only; omega⟩)
    unfold opCells at Hlight
    go_wp2_with fail
    refine (Hlight.out w2 Hb2.out).mono ?_
    rintro e w3 ⟨b, rfl, hb3⟩
    have Hb3 := Lib.hid (Below.then Hb2.out hb3)
    clear hb3
    cases b with
    | false => go_wp2; go_ret; exact ⟨rfl, Hb3.out⟩
    | true =>
      go_wp2_with fail
      refine (new_any w3 w.heap.size Hb3.out.size).mono ?_
      rintro e w4 ⟨rfl, hst, hb4⟩
      have Hb4 := Lib.hid (Below.then Hb3.out hb4)
      have Hst : Hid (Stands w4 w.heap.size (w3.heap.size + 1) w3.heap.size (runT [])) := Lib.hid ⟨_, _, _, hst, rfl, rfl⟩
      have Hsb : Hid (w.heap.size ≤ w3.heap.size + 1) := Lib.hid (Nat.le_succ_of_le Hb3.out.size)
      generalize w3.heap.size + 1 = sb at *
      generalize w3.heap.size = mb at Hst
      clear hst hb4
      have Hn : Hid (l.length = n) := Hlen
      go_wp2
      go_loopw [12] (fun i wr => ∃ k : Nat, k ≤ n ∧ i = .int .i64 (k : Int) ∧ Hid (Stands wr w.heap.size sb mb (runT (l.take k))) ∧ Hid ((runT (l.take k)).1.length ≤ k) ∧ Below w.heap.size w wr) (fun i _ => n - (intOf i).toNat)
      case atStart => exact ⟨0, by omega, rfl, Hst, Lib.hid (by simp [runT]), Hb4.out⟩
      case round =>
        obtain ⟨k, hk, rfl, Hst, Hk, hb⟩ := hrel
        have Hb := Lib.hid hb
        clear hb
        have hk60 : n ≤ 60 := by have := Hl60.out; have := Hn.out; omega
        by_cases hlt : k < n
        · obtain ⟨a, o, rv, ov, fv, lv, hv, rfl, hab, hol, hop, d0, d1, d2, d3, d4, d5, d6, d7, d8, d9, d10, d11⟩ := ops_at (Hops.out.belowOf Hb.out (Nat.le_refl _)) hlt
          have Hcall := Lib.hid (step_any Hst.out _ o w.heap.size Hsb.out hop (by have := Hk.out; omega))
          have Hrun : Hid (stepT (runT (l.take k)) o = runT (l.take (k + 1))) := Lib.hid (by
            obtain ⟨hkl, e⟩ := List.getElem?_eq_some_iff.1 hol
            rw [List.take_succ_eq_append_getElem hkl, runT_snoc, e])
          have Hk2 : Hid ((runT (l.take (k + 1))).1.length ≤ k + 1) := Lib.hid (by
            rw [← Hrun.out]
            have := stepT_len (runT (l.take k)) o
            have := Hk.out
            omega)
          rw [Hrun.out] at Hcall
          unfold opCells at Hcall
          have hk0 : (0 : Int) ≤ (k : Int) := by omega
          have hk1 : (k : Int) < (n : Int) := by omega
          clear hop hol
          go_wp2_with fail
          refine Hcall.out.mono ?_
          rintro e w5 ⟨u, rfl, -, hs5, hb5⟩
          have Hs5 := Lib.hid hs5
          have Hb5 := Lib.hid (Hb.out.trans hb5)
          clear hs5 hb5
          go_wp2
          go_roundw
          case rel => exact ⟨k + 1, by omega, by go_num, Hs5, Hk2, Hb5.out⟩
          case measure => simp [intOf]; omega
        · have hkn : k = n := by omega
          subst hkn
          rw [List.take_of_length_le (by have := Hn.out; omega)] at Hst Hk
          --TAIL
          have hn60 : k ≤ 60 := by have := Hl60.out; have := Hn.out; omega
          obtain ⟨S, hS⟩ : ∃ S, runT l = S := ⟨_, rfl⟩
          rw [hS] at Hst Hk
          clear hS
          obtain ⟨S1, hS1⟩ : ∃ S1, stepT S (casOp key old one) = S1 := ⟨_, rfl⟩
          obtain ⟨was, hw⟩ : ∃ r, (doT (getOp key) S.1 S.2.1 S.2.2).1 = r := ⟨_, rfl⟩
          obtain ⟨a, ha⟩ : ∃ r, (doT (casOp key old one) S.1 S.2.1 S.2.2).1 = r := ⟨_, rfl⟩
          obtain ⟨now, hn⟩ : ∃ r, (doT (getOp key) S1.1 S1.2.1 S1.2.2).1 = r := ⟨_, rfl⟩
          obtain ⟨b, hb⟩ : ∃ r, (doT (casOp key old two) S1.1 S1.2.1 S1.2.2).1 = r := ⟨_, rfl⟩
          have Hcases := Lib.hid (cas_plain S key old one two was a now b hw ha (by rw [hS1]; exact hn) (by rw [hS1]; exact hb))
          have Hcw := Lib.hid (cas_codes S key was hw)
          have Hw := Lib.hid hw
          have Ha := Lib.hid ha
          have Hnow := Lib.hid hn
          have Hbb := Lib.hid hb
          have HS1 := Lib.hid hS1
          have Hk1 : Hid (S1.1.length ≤ k + 1) := Lib.hid (by
            have := stepT_len S (casOp key old one)
            rw [hS1] at this
            have := Hk.out
            omega)
          clear hw ha hn hb hS1 hlt hk
          go_wp2_with fail
          refine (step_stays Hst.out _ (getOp key) w.heap.size Hsb.out ⟨_, _, _, _, _, rfl, isVals_nil _ _, isVals_nil _ _, isInts_nil _ _, isVals_nil _ _, isVals_nil _ _⟩ (by have := Hk.out; omega)).mono ?_
          rintro e x1 ⟨u, rfl, ha, hs, hb, hq⟩
          rw [Hw.out] at ha
          obtain ⟨B1, d1, E1, f1, rfl, gm1, dm1, hv, hR⟩ := ha.parts
          have G1 := Lib.hid gm1
          clear gm1
          have Hdm1 := Lib.hid dm1
          clear dm1
          have Hx1 := Lib.hid hq
          have Hv1 := Lib.hid hv
          have HR1 := Lib.hid hR
          obtain ⟨y1, hy1⟩ : ∃ y, x1.alloc (.cells #[.int .i64 was.code, .bool was.there, .slice B1 was.rc.length d1, .slice E1 was.rows.length f1, .int .i64 was.num] 35) = y := ⟨_, rfl⟩
          have Hy1 : Hid (Below x1.heap.size x1 y1) := Lib.hid (hy1 ▸ below_alloc _ _)
          have Hbx1 : Hid (Box y1 x1.heap.size 35 #[.int .i64 was.code, .bool was.there, .slice B1 was.rc.length d1, .slice E1 was.rows.length f1, .int .i64 was.num]) := Lib.hid (hy1 ▸ Box.made _ _ _)
          have Hst1 := Lib.hid (hs.below Hy1.out)
          have Hby1 : Hid (Below w.heap.size w y1) := Lib.hid ((Hb.out.trans hb).trans (Hy1.out.mono (Nat.le_trans Hb.out.size hb.size)))
          clear ha hs hb hq hv hR
          rw [step_get] at Hst1
          go_wp2_with fail
          refine (step_stays Hst1.out _ (casOp key old one) w.heap.size Hsb.out ⟨_, _, _, _, _, rfl, H2.out.belowOf Hby1.out (Nat.le_refl _), H1.out.belowOf Hby1.out (Nat.le_refl _), isInts_nil _ _, isVals_nil _ _, isVals_nil _ _⟩ (by have := Hk.out; omega)).mono ?_
          rintro e x2 ⟨u, rfl, ha, hs, hb, hq⟩
          rw [Ha.out] at ha
          obtain ⟨B2, d2, E2, f2, rfl, gm2, dm2, hv, hR⟩ := ha.parts
          have G2 := Lib.hid gm2
          clear gm2
          have Hdm2 := Lib.hid dm2
          clear dm2
          have Hx2 := Lib.hid hq
          have Hv2 := Lib.hid hv
          have HR2 := Lib.hid hR
          obtain ⟨y2, hy2⟩ : ∃ y, x2.alloc (.cells #[.int .i64 a.code, .bool a.there, .slice B2 a.rc.length d2, .slice E2 a.rows.length f2, .int .i64 a.num] 35) = y := ⟨_, rfl⟩
          have Hy2 : Hid (Below x2.heap.size x2 y2) := Lib.hid (hy2 ▸ below_alloc _ _)
          have Hbx2 : Hid (Box y2 x2.heap.size 35 #[.int .i64 a.code, .bool a.there, .slice B2 a.rc.length d2, .slice E2 a.rows.length f2, .int .i64 a.num]) := Lib.hid (hy2 ▸ Box.made _ _ _)
          have Hst2 := Lib.hid (hs.below Hy2.out)
          have Hby2 : Hid (Below w.heap.size w y2) := Lib.hid ((Hby1.out.trans hb).trans (Hy2.out.mono (Nat.le_trans Hby1.out.size hb.size)))
          clear ha hs hb hq hv hR
          rw [HS1.out] at Hst2
          go_wp2_with fail
          refine (step_stays Hst2.out _ (getOp key) w.heap.size Hsb.out ⟨_, _, _, _, _, rfl, isVals_nil _ _, isVals_nil _ _, isInts_nil _ _, isVals_nil _ _, isVals_nil _ _⟩ (by have := Hk1.out; omega)).mono ?_
          rintro e x3 ⟨u, rfl, ha, hs, hb, hq⟩
          rw [Hnow.out] at ha
          obtain ⟨B3, d3, E3, f3, rfl, gm3, dm3, hv, hR⟩ := ha.parts
          have G3 := Lib.hid gm3
          clear gm3
          have Hdm3 := Lib.hid dm3
          clear dm3
          have Hx3 := Lib.hid hq
          have Hv3 := Lib.hid hv
          have HR3 := Lib.hid hR
          obtain ⟨y3, hy3⟩ : ∃ y, x3.alloc (.cells #[.int .i64 now.code, .bool now.there, .slice B3 now.rc.length d3, .slice E3 now.rows.length f3, .int .i64 now.num] 35) = y := ⟨_, rfl⟩
          have Hy3 : Hid (Below x3.heap.size x3 y3) := Lib.hid (hy3 ▸ below_alloc _ _)
          have Hbx3 : Hid (Box y3 x3.heap.size 35 #[.int .i64 now.code, .bool now.there, .slice B3 now.rc.length d3, .slice E3 now.rows.length f3, .int .i64 now.num]) := Lib.hid (hy3 ▸ Box.made _ _ _)
          have Hst3 := Lib.hid (hs.below Hy3.out)
          have Hby3 : Hid (Below w.heap.size w y3) := Lib.hid ((Hby2.out.trans hb).trans (Hy3.out.mono (Nat.le_trans Hby2.out.size hb.size)))
          clear ha hs hb hq hv hR
          rw [step_get] at Hst3
          go_wp2_with fail
          refine (step_stays Hst3.out _ (casOp key old two) w.heap.size Hsb.out ⟨_, _, _, _, _, rfl, H3.out.belowOf Hby3.out (Nat.le_refl _), H1.out.belowOf Hby3.out (Nat.le_refl _), isInts_nil _ _, isVals_nil _ _, isVals_nil _ _⟩ (by have := Hk1.out; omega)).mono ?_
          rintro e x4 ⟨u, rfl, ha, hs, hb, hq⟩
          rw [Hbb.out] at ha
          obtain ⟨B4, d4, E4, f4, rfl, gm4, dm4, hv, hR⟩ := ha.parts
          have G4 := Lib.hid gm4
          clear gm4
          have Hdm4 := Lib.hid dm4
          clear dm4
          have Hx4 := Lib.hid hq
          have Hv4 := Lib.hid hv
          have HR4 := Lib.hid hR
          obtain ⟨y4, hy4⟩ : ∃ y, x4.alloc (.cells #[.int .i64 b.code, .bool b.there, .slice B4 b.rc.length d4, .slice E4 b.rows.length f4, .int .i64 b.num] 35) = y := ⟨_, rfl⟩
          have Hy4 : Hid (Below x4.heap.size x4 y4) := Lib.hid (hy4 ▸ below_alloc _ _)
          have Hbx4 : Hid (Box y4 x4.heap.size 35 #[.int .i64 b.code, .bool b.there, .slice B4 b.rc.length d4, .slice E4 b.rows.length f4, .int .i64 b.num]) := Lib.hid (hy4 ▸ Box.made _ _ _)
          have Hst4 := Lib.hid (hs.below Hy4.out)
          have Hby4 : Hid (Below w.heap.size w y4) := Lib.hid ((Hby3.out.trans hb).trans (Hy4.out.mono (Nat.le_trans Hby3.out.size hb.size)))
          clear ha hs hb hq hv hR
          have T4 : Hid (Stays y3 y4) := Lib.hid (Hx4.out.trans (Stays.below Hy4.out))
          have T3 : Hid (Stays y2 y4) := Lib.hid ((Hx3.out.trans (Stays.below Hy3.out)).trans T4.out)
          have T2 : Hid (Stays y1 y4) := Lib.hid ((Hx2.out.trans (Stays.below Hy2.out)).trans T3.out)
          have W1 := Lib.hid (Hbx1.out.stays T2.out (by decide) (by decide))
          have W2 := Lib.hid (Hbx2.out.stays T3.out (by decide) (by decide))
          have W3 := Lib.hid (Hbx3.out.stays T4.out (by decide) (by decide))
          have W4 := Hbx4
          have V1 := Lib.hid (own_stays Hv1.out ((Stays.below Hy1.out).trans T2.out) (by decide) (by decide))
          have V2 := Lib.hid (own_stays Hv2.out ((Stays.below Hy2.out).trans T3.out) (by decide) (by decide))
          have V3 := Lib.hid (own_stays Hv3.out ((Stays.below Hy3.out).trans T4.out) (by decide) (by decide))
          have V4 := Lib.hid (own_stays Hv4.out (Stays.below Hy4.out) (by decide) (by decide))
          have R1 := Lib.hid (HR1.out.stays ((Stays.below Hy1.out).trans T2.out))
          have R3 := Lib.hid (HR3.out.stays ((Stays.below Hy3.out).trans T4.out))
          have Hby := Hby4
          have hy1x := Lib.hid hy1
          have hy2x := Lib.hid hy2
          have hy3x := Lib.hid hy3
          have hy4x := Lib.hid hy4
          clear hy1 hy2 hy3
          generalize x1.heap.size = g1 at W1
          generalize x2.heap.size = g2 at W2
          generalize x3.heap.size = g3 at W3
          have U1 := isVals_slice H1.out
          have U2 := isVals_slice H2.out
          have HS := fun (wx : World) (hb : Below y4.heap.size y4 wx) => (Hby.out.trans (hb.mono Hby.out.size))
          have HSx := Lib.hid HS
          have SWO := Lib.hid (fun wx (hb : Below y4.heap.size y4 wx) => same_any B1 A1 _ n1 d1 c1 _ _ was.rc old wx ((own_vals V1.out).belowOf hb (Nat.le_refl _)) (U1.2.2.belowOf (HS wx hb) (Nat.le_refl _)) (Nat.le_trans G1.out Hdm1.out) (Nat.le_trans U1.1 U1.2.1))
          have SAW := Lib.hid (fun wx (hb : Below y4.heap.size y4 wx) => same_any B2 B1 _ _ d2 d1 _ _ a.rc was.rc wx ((own_vals V2.out).belowOf hb (Nat.le_refl _)) ((own_vals V1.out).belowOf hb (Nat.le_refl _)) (Nat.le_trans G2.out Hdm2.out) (Nat.le_trans G1.out Hdm1.out))
          have SNW := Lib.hid (fun wx (hb : Below y4.heap.size y4 wx) => same_any B3 B1 _ _ d3 d1 _ _ now.rc was.rc wx ((own_vals V3.out).belowOf hb (Nat.le_refl _)) ((own_vals V1.out).belowOf hb (Nat.le_refl _)) (Nat.le_trans G3.out Hdm3.out) (Nat.le_trans G1.out Hdm1.out))
          have SNO := Lib.hid (fun wx (hb : Below y4.heap.size y4 wx) => same_any B3 A2 _ n2 d3 c2 _ _ now.rc one wx ((own_vals V3.out).belowOf hb (Nat.le_refl _)) (U2.2.2.belowOf (HS wx hb) (Nat.le_refl _)) (Nat.le_trans G3.out Hdm3.out) (Nat.le_trans U2.1 U2.2.1))
          have SBO := Lib.hid (fun wx (hb : Below y4.heap.size y4 wx) => same_any B4 A2 _ n2 d4 c2 _ _ b.rc one wx ((own_vals V4.out).belowOf hb (Nat.le_refl _)) (U2.2.2.belowOf (HS wx hb) (Nat.le_refl _)) (Nat.le_trans G4.out Hdm4.out) (Nat.le_trans U2.1 U2.2.1))
          have SOO := Lib.hid (fun wx (hb : Below y4.heap.size y4 wx) => same_any A2 A1 n2 n1 c2 c1 _ _ one old wx (U2.2.2.belowOf (HS wx hb) (Nat.le_refl _)) (U1.2.2.belowOf (HS wx hb) (Nat.le_refl _)) (Nat.le_trans U2.1 U2.2.1) (Nat.le_trans U1.1 U1.2.1))
          clear U1 U2 HS
          rcases Hcases.out with ⟨h0, h9, hwn⟩ | ⟨h9, hwo, haw, hnw⟩ | ⟨h0, hwo, hth, hno, hb3⟩
          · have SR := Lib.hid (sameReply_any was now (.agg #[.int .i64 was.code, .bool was.there, .slice B1 was.rc.length d1, .slice E1 was.rows.length f1, .int .i64 was.num]) (.agg #[.int .i64 now.code, .bool now.there, .slice B3 now.rc.length d3, .slice E3 now.rows.length f3, .int .i64 now.num]) wr.heap.size y2.heap.size y4 ⟨_, _, rfl, V1.out, R1.out⟩ ⟨_, _, rfl, V3.out, R3.out⟩ (by rw [Hcw.out.1]; simp))
            rw [decide_eq_true hwn] at SR
            clear hwn
            have hc0 : (a.code == 0) = false := by simpa using h0
            have hc9 : (a.code == 9) = false := by simpa using h9
            obtain ⟨p10, p11, p12, p13, p14, -⟩ := box5 W1.out
            obtain ⟨p30, p31, p32, p33, p34, -⟩ := box5 W3.out
            obtain ⟨p20, p21, p22, p23, p24, -⟩ := box5 W2.out
            go_wp2_with fail
            refine SR.out.mono ?_
            rintro e z1 ⟨rfl, hz1⟩
            go_wp2
            go_ret
            exact ⟨rfl, Hby.out.trans (hz1.mono Hby.out.size)⟩
          · rw [h9] at W2
            rw [decide_eq_false hwo] at SWO
            rw [decide_eq_true haw] at SAW
            rw [decide_eq_true hnw] at SNW
            have Hfin := Lib.hid (And.intro h9 (And.intro haw hnw))
            clear h9 hwo haw hnw
            have L : Hid (∀ wx, Below y4.heap.size y4 wx → wx.cell? ⟨g1, 2, none⟩ = some (.slice B1 was.rc.length d1) ∧ wx.cell? ⟨g2, 0, none⟩ = some (.int .i64 9) ∧ wx.cell? ⟨g2, 2, none⟩ = some (.slice B2 a.rc.length d2) ∧ wx.cell? ⟨g3, 2, none⟩ = some (.slice B3 now.rc.length d3)) := Lib.hid fun wx hb => ⟨(W1.out.below hb W1.out.lt).cell 2, (W2.out.below hb W2.out.lt).cell 0, (W2.out.below hb W2.out.lt).cell 2, (W3.out.below hb W3.out.lt).cell 2⟩
            obtain ⟨p12, p20, p22, p32⟩ := L.out y4 (Below.refl _ _)
            go_wp2_with fail
            refine (SWO.out y4 (Below.refl _ _)).mono ?_
            rintro e z1 ⟨rfl, hz1⟩
            clear p12 p20 p22 p32
            obtain ⟨p12, p20, p22, p32⟩ := L.out z1 hz1
            have Hz1 := Lib.hid hz1
            clear hz1
            go_wp2_with fail
            refine (SAW.out z1 Hz1.out).mono ?_
            rintro e z2 ⟨rfl, hz2⟩
            clear p12 p20 p22 p32
            have Hz2 := Lib.hid (Hz1.out.trans (hz2.mono Hz1.out.size))
            clear hz2
            obtain ⟨p12, p20, p22, p32⟩ := L.out z2 Hz2.out
            go_wp2_with fail
            refine (SNW.out z2 Hz2.out).mono ?_
            rintro e z3 ⟨rfl, hz3⟩
            have Hz3 := Lib.hid (Hz2.out.trans (hz3.mono Hz2.out.size))
            clear hz3 p12 p20 p22 p32
            go_wp2
            go_ret
            exact ⟨rfl, HSx.out _ Hz3.out⟩
          · rw [h0, hth] at W2
            rw [decide_eq_true hwo] at SWO
            rw [decide_eq_true hno] at SNO
            clear h0 hth hwo hno
            rcases hb3 with ⟨h9, hbo⟩ | ⟨hb0, hoo⟩ | ⟨hb9, hb0, hbq⟩
            · rw [h9] at W4
              rw [decide_eq_true hbo] at SBO
              clear h9 hbo
              have L : Hid (∀ wx, Below y4.heap.size y4 wx → (fun wx => wx.cell? ⟨g1, 1, none⟩ = some (.bool was.there) ∧ wx.cell? ⟨g1, 2, none⟩ = some (.slice B1 was.rc.length d1) ∧ wx.cell? ⟨g2, 1, none⟩ = some (.bool was.there) ∧ wx.cell? ⟨g3, 2, none⟩ = some (.slice B3 now.rc.length d3) ∧ wx.cell? ⟨x4.heap.size, 0, none⟩ = some (.int .i64 9) ∧ wx.cell? ⟨x4.heap.size, 2, none⟩ = some (.slice B4 b.rc.length d4)) wx) := Lib.hid fun wx hb => ⟨(W1.out.below hb W1.out.lt).cell 1, (W1.out.below hb W1.out.lt).cell 2, (W2.out.below hb W2.out.lt).cell 1, (W3.out.below hb W3.out.lt).cell 2, (W4.out.below hb W4.out.lt).cell 0, (W4.out.below hb W4.out.lt).cell 2⟩
              have p20 := W2.out.cell 0
              go_wp2_with fail
              clear p20
              have hS0 := L.out y4 (Below.refl _ _)
              refine wp_region_held_drew (S := fun wx => wx.cell? ⟨g1, 1, none⟩ = some (.bool was.there) ∧ wx.cell? ⟨g1, 2, none⟩ = some (.slice B1 was.rc.length d1) ∧ wx.cell? ⟨g2, 1, none⟩ = some (.bool was.there) ∧ wx.cell? ⟨g3, 2, none⟩ = some (.slice B3 now.rc.length d3) ∧ wx.cell? ⟨x4.heap.size, 0, none⟩ = some (.int .i64 9) ∧ wx.cell? ⟨x4.heap.size, 2, none⟩ = some (.slice B4 b.rc.length d4)) (by kernel_rfl) hS0 (fun hHeld => ?_)
              clear hS0
              refine wpAnyH_take (i := 0) (oi := ⟨some 68, _, _, _, _, _⟩) (v := .pointer (some ⟨g1, 2, none⟩)) rfl (by kernel_rfl) (by kernel_rfl) (by kernel_rfl) (fun _ _ _ h => h) (Or.inl ⟨by rfl, ?_⟩) (by assumption) ?_
              · intro w hSw; (try dsimp only at hSw); go_simp
              simp only [Act.put, List.setIfInBounds_toArray, List.set_cons_zero, List.set_cons_succ]
              refine wpAnyH_take (i := 1) (oi := ⟨some 69, _, _, _, _, _⟩) (v := .slice B1 was.rc.length d1) rfl (by kernel_rfl) (by kernel_rfl) (by kernel_rfl) (fun _ _ _ h => h) (Or.inl ⟨by rfl, ?_⟩) (by assumption) ?_
              · intro w hSw; (try dsimp only at hSw); go_simp
              simp only [Act.put, List.setIfInBounds_toArray, List.set_cons_zero, List.set_cons_succ]
              refine wpAnyH_take (i := 2) (oi := ⟨some 70, _, _, _, _, _⟩) (v := .slice A1 n1 c1) rfl (by kernel_rfl) (by kernel_rfl) (by kernel_rfl) (fun _ _ _ h => h) (Or.inl ⟨by rfl, ?_⟩) (by assumption) ?_
              · intro w hSw; (try dsimp only at hSw); go_simp
              simp only [Act.put, List.setIfInBounds_toArray, List.set_cons_zero, List.set_cons_succ]
              refine wpAnyH_ready (rs := [3]) (by kernel_rfl) (by simp) (AllReadyH.cons (o := ⟨some 71, _, _, _, _, _⟩) rfl (fun K hK => ?_) AllReadyH.nil)
              go_simp
              refine (SWO.out _ ((Below.refl y4.heap.size y4).drew)).mono ?_
              rintro e z1 ⟨rfl, hz1⟩
              have Hz1 : Hid (Below y4.heap.size y4 z1) := Lib.hid (((Below.refl y4.heap.size y4).drew).trans (hz1.mono ((Below.refl y4.heap.size y4).drew).size))
              clear hz1
              refine hK.out _ _ (L.out z1 Hz1.out) (fun _ => ?_)
              clear hK K
              refine wpAnyH_take (i := 4) (oi := ⟨some 72, _, _, _, _, _⟩) (v := .bool true) rfl (by kernel_rfl) (by kernel_rfl) (by kernel_rfl) (fun _ _ _ h => h) (Or.inl ⟨by rfl, ?_⟩) (by assumption) ?_
              · intro w hSw; (try dsimp only at hSw); go_simp
              simp only [Act.put, List.setIfInBounds_toArray, List.set_cons_zero, List.set_cons_succ]
              refine wpAnyH_take (i := 5) (oi := ⟨some 73, _, _, _, _, _⟩) (v := .pointer (some ⟨g2, 1, none⟩)) rfl (by kernel_rfl) (by kernel_rfl) (by kernel_rfl) (fun _ _ _ h => h) (Or.inl ⟨by rfl, ?_⟩) (by assumption) ?_
              · intro w hSw; (try dsimp only at hSw); go_simp
              simp only [Act.put, List.setIfInBounds_toArray, List.set_cons_zero, List.set_cons_succ]
              refine wpAnyH_take (i := 6) (oi := ⟨some 74, _, _, _, _, _⟩) (v := .bool was.there) rfl (by kernel_rfl) (by kernel_rfl) (by kernel_rfl) (fun _ _ _ h => h) (Or.inl ⟨by rfl, ?_⟩) (by assumption) ?_
              · intro w hSw; (try dsimp only at hSw); go_simp
              simp only [Act.put, List.setIfInBounds_toArray, List.set_cons_zero, List.set_cons_succ]
              refine wpAnyH_take (i := 7) (oi := ⟨some 75, _, _, _, _, _⟩) (v := .pointer (some ⟨g1, 1, none⟩)) rfl (by kernel_rfl) (by kernel_rfl) (by kernel_rfl) (fun _ _ _ h => h) (Or.inl ⟨by rfl, ?_⟩) (by assumption) ?_
              · intro w hSw; (try dsimp only at hSw); go_simp
              simp only [Act.put, List.setIfInBounds_toArray, List.set_cons_zero, List.set_cons_succ]
              refine wpAnyH_take (i := 8) (oi := ⟨some 76, _, _, _, _, _⟩) (v := .bool was.there) rfl (by kernel_rfl) (by kernel_rfl) (by kernel_rfl) (fun _ _ _ h => h) (Or.inl ⟨by rfl, ?_⟩) (by assumption) ?_
              · intro w hSw; (try dsimp only at hSw); go_simp
              simp only [Act.put, List.setIfInBounds_toArray, List.set_cons_zero, List.set_cons_succ]
              refine wpAnyH_take (i := 9) (oi := ⟨some 77, _, _, _, _, _⟩) (v := .bool true) rfl (by kernel_rfl) (by kernel_rfl) (by kernel_rfl) (fun _ _ _ h => h) (Or.inl ⟨by rfl, ?_⟩) (by assumption) ?_
              · intro w hSw; (try dsimp only at hSw); go_simp
              simp only [Act.put, List.setIfInBounds_toArray, List.set_cons_zero, List.set_cons_succ]
              refine wpAnyH_take (i := 10) (oi := ⟨some 78, _, _, _, _, _⟩) (v := .bool true) rfl (by kernel_rfl) (by kernel_rfl) (by kernel_rfl) (fun _ _ _ h => h) (Or.inl ⟨by rfl, ?_⟩) (by assumption) ?_
              · intro w hSw; (try dsimp only at hSw); go_simp
              simp only [Act.put, List.setIfInBounds_toArray, List.set_cons_zero, List.set_cons_succ]
              refine wpAnyH_take (i := 11) (oi := ⟨some 79, _, _, _, _, _⟩) (v := .bool true) rfl (by kernel_rfl) (by kernel_rfl) (by kernel_rfl) (fun _ _ _ h => h) (Or.inl ⟨by rfl, ?_⟩) (by assumption) ?_
              · intro w hSw; (try dsimp only at hSw); go_simp
              simp only [Act.put, List.setIfInBounds_toArray, List.set_cons_zero, List.set_cons_succ]
              refine wpAnyH_take (i := 12) (oi := ⟨some 80, _, _, _, _, _⟩) (v := .pointer (some ⟨g3, 2, none⟩)) rfl (by kernel_rfl) (by kernel_rfl) (by kernel_rfl) (fun _ _ _ h => h) (Or.inl ⟨by rfl, ?_⟩) (by assumption) ?_
              · intro w hSw; (try dsimp only at hSw); go_simp
              simp only [Act.put, List.setIfInBounds_toArray, List.set_cons_zero, List.set_cons_succ]
              refine wpAnyH_take (i := 13) (oi := ⟨some 81, _, _, _, _, _⟩) (v := .slice B3 now.rc.length d3) rfl (by kernel_rfl) (by kernel_rfl) (by kernel_rfl) (fun _ _ _ h => h) (Or.inl ⟨by rfl, ?_⟩) (by assumption) ?_
              · intro w hSw; (try dsimp only at hSw); go_simp
              simp only [Act.put, List.setIfInBounds_toArray, List.set_cons_zero, List.set_cons_succ]
              refine wpAnyH_take (i := 14) (oi := ⟨some 82, _, _, _, _, _⟩) (v := .slice A2 n2 c2) rfl (by kernel_rfl) (by kernel_rfl) (by kernel_rfl) (fun _ _ _ h => h) (Or.inl ⟨by rfl, ?_⟩) (by assumption) ?_
              · intro w hSw; (try dsimp only at hSw); go_simp
              simp only [Act.put, List.setIfInBounds_toArray, List.set_cons_zero, List.set_cons_succ]
              refine wpAnyH_ready (rs := [15]) (by kernel_rfl) (by simp) (AllReadyH.cons (o := ⟨some 83, _, _, _, _, _⟩) rfl (fun K hK => ?_) AllReadyH.nil)
              go_simp
              refine (SNO.out _ (Hz1.out)).mono ?_
              rintro e z2 ⟨rfl, hz2⟩
              have Hz2 : Hid (Below y4.heap.size y4 z2) := Lib.hid ((Hz1.out).trans (hz2.mono (Hz1.out).size))
              clear hz2
              refine hK.out _ _ (L.out z2 Hz2.out) (fun _ => ?_)
              clear hK K
              refine wpAnyH_take (i := 16) (oi := ⟨some 84, _, _, _, _, _⟩) (v := .bool true) rfl (by kernel_rfl) (by kernel_rfl) (by kernel_rfl) (fun _ _ _ h => h) (Or.inl ⟨by rfl, ?_⟩) (by assumption) ?_
              · intro w hSw; (try dsimp only at hSw); go_simp
              simp only [Act.put, List.setIfInBounds_toArray, List.set_cons_zero, List.set_cons_succ]
              refine wpAnyH_take (i := 17) (oi := ⟨some 85, _, _, _, _, _⟩) (v := .bool true) rfl (by kernel_rfl) (by kernel_rfl) (by kernel_rfl) (fun _ _ _ h => h) (Or.inl ⟨by rfl, ?_⟩) (by assumption) ?_
              · intro w hSw; (try dsimp only at hSw); go_simp
              simp only [Act.put, List.setIfInBounds_toArray, List.set_cons_zero, List.set_cons_succ]
              refine wpAnyH_take (i := 18) (oi := ⟨some 86, _, _, _, _, _⟩) (v := .pointer (some ⟨x4.heap.size, 0, none⟩)) rfl (by kernel_rfl) (by kernel_rfl) (by kernel_rfl) (fun _ _ _ h => h) (Or.inl ⟨by rfl, ?_⟩) (by assumption) ?_
              · intro w hSw; (try dsimp only at hSw); go_simp
              simp only [Act.put, List.setIfInBounds_toArray, List.set_cons_zero, List.set_cons_succ]
              refine wpAnyH_take (i := 19) (oi := ⟨some 87, _, _, _, _, _⟩) (v := .int .i64 9) rfl (by kernel_rfl) (by kernel_rfl) (by kernel_rfl) (fun _ _ _ h => h) (Or.inl ⟨by rfl, ?_⟩) (by assumption) ?_
              · intro w hSw; (try dsimp only at hSw); go_simp
              simp only [Act.put, List.setIfInBounds_toArray, List.set_cons_zero, List.set_cons_succ]
              refine wpAnyH_take (i := 20) (oi := ⟨some 88, _, _, _, _, _⟩) (v := .bool true) rfl (by kernel_rfl) (by kernel_rfl) (by kernel_rfl) (fun _ _ _ h => h) (Or.inl ⟨by rfl, ?_⟩) (by assumption) ?_
              · intro w hSw; (try dsimp only at hSw); go_simp
              simp only [Act.put, List.setIfInBounds_toArray, List.set_cons_zero, List.set_cons_succ]
              refine wpAnyH_take (i := 21) (oi := ⟨some 89, _, _, _, _, _⟩) (v := .bool true) rfl (by kernel_rfl) (by kernel_rfl) (by kernel_rfl) (fun _ _ _ h => h) (Or.inl ⟨by rfl, ?_⟩) (by assumption) ?_
              · intro w hSw; (try dsimp only at hSw); go_simp
              simp only [Act.put, List.setIfInBounds_toArray, List.set_cons_zero, List.set_cons_succ]
              refine wpAnyH_take (i := 22) (oi := ⟨some 90, _, _, _, _, _⟩) (v := .pointer (some ⟨x4.heap.size, 2, none⟩)) rfl (by kernel_rfl) (by kernel_rfl) (by kernel_rfl) (fun _ _ _ h => h) (Or.inl ⟨by rfl, ?_⟩) (by assumption) ?_
              · intro w hSw; (try dsimp only at hSw); go_simp
              simp only [Act.put, List.setIfInBounds_toArray, List.set_cons_zero, List.set_cons_succ]
              refine wpAnyH_take (i := 23) (oi := ⟨some 91, _, _, _, _, _⟩) (v := .slice B4 b.rc.length d4) rfl (by kernel_rfl) (by kernel_rfl) (by kernel_rfl) (fun _ _ _ h => h) (Or.inl ⟨by rfl, ?_⟩) (by assumption) ?_
              · intro w hSw; (try dsimp only at hSw); go_simp
              simp only [Act.put, List.setIfInBounds_toArray, List.set_cons_zero, List.set_cons_succ]
              refine wpAnyH_take (i := 24) (oi := ⟨some 92, _, _, _, _, _⟩) (v := .slice A2 n2 c2) rfl (by kernel_rfl) (by kernel_rfl) (by kernel_rfl) (fun _ _ _ h => h) (Or.inl ⟨by rfl, ?_⟩) (by assumption) ?_
              · intro w hSw; (try dsimp only at hSw); go_simp
              simp only [Act.put, List.setIfInBounds_toArray, List.set_cons_zero, List.set_cons_succ]
              refine wpAnyH_ready (rs := [25]) (by kernel_rfl) (by simp) (AllReadyH.cons (o := ⟨some 93, _, _, _, _, _⟩) rfl (fun K hK => ?_) AllReadyH.nil)
              go_simp
              refine (SBO.out _ (Hz2.out)).mono ?_
              rintro e z3 ⟨rfl, hz3⟩
              have Hz3 : Hid (Below y4.heap.size y4 z3) := Lib.hid ((Hz2.out).trans (hz3.mono (Hz2.out).size))
              clear hz3
              refine hK.out _ _ (L.out z3 Hz3.out) (fun _ => ?_)
              clear hK K
              refine wpAnyH_take (i := 26) (oi := ⟨some 94, _, _, _, _, _⟩) (v := .bool true) rfl (by kernel_rfl) (by kernel_rfl) (by kernel_rfl) (fun _ _ _ h => h) (Or.inl ⟨by rfl, ?_⟩) (by assumption) ?_
              · intro w hSw; (try dsimp only at hSw); go_simp
              simp only [Act.put, List.setIfInBounds_toArray, List.set_cons_zero, List.set_cons_succ]
              refine wpAnyH_take (i := 27) (oi := ⟨some 95, _, _, _, _, _⟩) (v := .bool true) rfl (by kernel_rfl) (by kernel_rfl) (by kernel_rfl) (fun _ _ _ h => h) (Or.inl ⟨by rfl, ?_⟩) (by assumption) ?_
              · intro w hSw; (try dsimp only at hSw); go_simp
              simp only [Act.put, List.setIfInBounds_toArray, List.set_cons_zero, List.set_cons_succ]
              refine wpAnyH_take (i := 28) (oi := ⟨some 96, _, _, _, _, _⟩) (v := undef) rfl (by kernel_rfl) (by kernel_rfl) (by kernel_rfl) (fun _ _ _ h => h) (Or.inr ⟨by rfl, rfl⟩) (by assumption) ?_
              simp only [Act.put, List.setIfInBounds_toArray, List.set_cons_zero, List.set_cons_succ]
              refine wpAnyH_take (i := 29) (oi := ⟨some 97, _, _, _, _, _⟩) (v := undef) rfl (by kernel_rfl) (by kernel_rfl) (by kernel_rfl) (fun _ _ _ h => h) (Or.inr ⟨by rfl, rfl⟩) (by assumption) ?_
              simp only [Act.put, List.setIfInBounds_toArray, List.set_cons_zero, List.set_cons_succ]
              refine wpAnyH_take (i := 30) (oi := ⟨some 98, _, _, _, _, _⟩) (v := undef) rfl (by kernel_rfl) (by kernel_rfl) (by kernel_rfl) (fun _ _ _ h => h) (Or.inr ⟨by rfl, rfl⟩) (by assumption) ?_
              simp only [Act.put, List.setIfInBounds_toArray, List.set_cons_zero, List.set_cons_succ]
              refine wpAnyH_take (i := 31) (oi := ⟨some 99, _, _, _, _, _⟩) (v := undef) rfl (by kernel_rfl) (by kernel_rfl) (by kernel_rfl) (fun _ _ _ h => h) (Or.inr ⟨by rfl, rfl⟩) (by assumption) ?_
              simp only [Act.put, List.setIfInBounds_toArray, List.set_cons_zero, List.set_cons_succ]
              refine wpAnyH_take (i := 32) (oi := ⟨some 100, _, _, _, _, _⟩) (v := undef) rfl (by kernel_rfl) (by kernel_rfl) (by kernel_rfl) (fun _ _ _ h => h) (Or.inr ⟨by rfl, rfl⟩) (by assumption) ?_
              simp only [Act.put, List.setIfInBounds_toArray, List.set_cons_zero, List.set_cons_succ]
              refine wpAnyH_take (i := 33) (oi := ⟨some 101, _, _, _, _, _⟩) (v := undef) rfl (by kernel_rfl) (by kernel_rfl) (by kernel_rfl) (fun _ _ _ h => h) (Or.inr ⟨by rfl, rfl⟩) (by assumption) ?_
              simp only [Act.put, List.setIfInBounds_toArray, List.set_cons_zero, List.set_cons_succ]
              refine wpAnyH_take (i := 34) (oi := ⟨some 102, _, _, _, _, _⟩) (v := undef) rfl (by kernel_rfl) (by kernel_rfl) (by kernel_rfl) (fun _ _ _ h => h) (Or.inr ⟨by rfl, rfl⟩) (by assumption) ?_
              simp only [Act.put, List.setIfInBounds_toArray, List.set_cons_zero, List.set_cons_succ]
              refine wpAnyH_take (i := 35) (oi := ⟨some 103, _, _, _, _, _⟩) (v := undef) rfl (by kernel_rfl) (by kernel_rfl) (by kernel_rfl) (fun _ _ _ h => h) (Or.inr ⟨by rfl, rfl⟩) (by assumption) ?_
              simp only [Act.put, List.setIfInBounds_toArray, List.set_cons_zero, List.set_cons_succ]
              refine wpAnyH_take (i := 36) (oi := ⟨some 104, _, _, _, _, _⟩) (v := .bool true) rfl (by kernel_rfl) (by kernel_rfl) (by kernel_rfl) (fun _ _ _ h => h) (Or.inl ⟨by rfl, ?_⟩) (by assumption) ?_
              · intro w hSw; (try dsimp only at hSw); go_simp
              simp only [Act.put, List.setIfInBounds_toArray, List.set_cons_zero, List.set_cons_succ]
              refine wpAnyH_take (i := 37) (oi := ⟨some 105, _, _, _, _, _⟩) (v := .bool true) rfl (by kernel_rfl) (by kernel_rfl) (by kernel_rfl) (fun _ _ _ h => h) (Or.inl ⟨by rfl, ?_⟩) (by assumption) ?_
              · intro w hSw; (try dsimp only at hSw); go_simp
              simp only [Act.put, List.setIfInBounds_toArray, List.set_cons_zero, List.set_cons_succ]
              refine wpAnyH_take (i := 38) (oi := ⟨some 106, _, _, _, _, _⟩) (v := undef) rfl (by kernel_rfl) (by kernel_rfl) (by kernel_rfl) (fun _ _ _ h => h) (Or.inr ⟨by rfl, rfl⟩) (by assumption) ?_
              simp only [Act.put, List.setIfInBounds_toArray, List.set_cons_zero, List.set_cons_succ]
              refine wpAnyH_take (i := 39) (oi := ⟨some 107, _, _, _, _, _⟩) (v := undef) rfl (by kernel_rfl) (by kernel_rfl) (by kernel_rfl) (fun _ _ _ h => h) (Or.inr ⟨by rfl, rfl⟩) (by assumption) ?_
              simp only [Act.put, List.setIfInBounds_toArray, List.set_cons_zero, List.set_cons_succ]
              refine wpAnyH_take (i := 40) (oi := ⟨some 108, _, _, _, _, _⟩) (v := undef) rfl (by kernel_rfl) (by kernel_rfl) (by kernel_rfl) (fun _ _ _ h => h) (Or.inr ⟨by rfl, rfl⟩) (by assumption) ?_
              simp only [Act.put, List.setIfInBounds_toArray, List.set_cons_zero, List.set_cons_succ]
              refine wpAnyH_take (i := 41) (oi := ⟨some 109, _, _, _, _, _⟩) (v := undef) rfl (by kernel_rfl) (by kernel_rfl) (by kernel_rfl) (fun _ _ _ h => h) (Or.inr ⟨by rfl, rfl⟩) (by assumption) ?_
              simp only [Act.put, List.setIfInBounds_toArray, List.set_cons_zero, List.set_cons_succ]
              refine wpAnyH_take (i := 42) (oi := ⟨some 110, _, _, _, _, _⟩) (v := undef) rfl (by kernel_rfl) (by kernel_rfl) (by kernel_rfl) (fun _ _ _ h => h) (Or.inr ⟨by rfl, rfl⟩) (by assumption) ?_
              simp only [Act.put, List.setIfInBounds_toArray, List.set_cons_zero, List.set_cons_succ]
              refine wpAnyH_take (i := 43) (oi := ⟨some 111, _, _, _, _, _⟩) (v := undef) rfl (by kernel_rfl) (by kernel_rfl) (by kernel_rfl) (fun _ _ _ h => h) (Or.inr ⟨by rfl, rfl⟩) (by assumption) ?_
              simp only [Act.put, List.setIfInBounds_toArray, List.set_cons_zero, List.set_cons_succ]
              refine wpAnyH_take (i := 44) (oi := ⟨some 112, _, _, _, _, _⟩) (v := undef) rfl (by kernel_rfl) (by kernel_rfl) (by kernel_rfl) (fun _ _ _ h => h) (Or.inr ⟨by rfl, rfl⟩) (by assumption) ?_
              simp only [Act.put, List.setIfInBounds_toArray, List.set_cons_zero, List.set_cons_succ]
              refine wpAnyH_take (i := 45) (oi := ⟨some 113, _, _, _, _, _⟩) (v := undef) rfl (by kernel_rfl) (by kernel_rfl) (by kernel_rfl) (fun _ _ _ h => h) (Or.inr ⟨by rfl, rfl⟩) (by assumption) ?_
              simp only [Act.put, List.setIfInBounds_toArray, List.set_cons_zero, List.set_cons_succ]
              refine wpAnyH_take (i := 46) (oi := ⟨some 114, _, _, _, _, _⟩) (v := undef) rfl (by kernel_rfl) (by kernel_rfl) (by kernel_rfl) (fun _ _ _ h => h) (Or.inr ⟨by rfl, rfl⟩) (by assumption) ?_
              simp only [Act.put, List.setIfInBounds_toArray, List.set_cons_zero, List.set_cons_succ]
              refine wpAnyH_take (i := 47) (oi := ⟨some 115, _, _, _, _, _⟩) (v := undef) rfl (by kernel_rfl) (by kernel_rfl) (by kernel_rfl) (fun _ _ _ h => h) (Or.inr ⟨by rfl, rfl⟩) (by assumption) ?_
              simp only [Act.put, List.setIfInBounds_toArray, List.set_cons_zero, List.set_cons_succ]
              refine wpAnyH_take (i := 48) (oi := ⟨some 116, _, _, _, _, _⟩) (v := undef) rfl (by kernel_rfl) (by kernel_rfl) (by kernel_rfl) (fun _ _ _ h => h) (Or.inr ⟨by rfl, rfl⟩) (by assumption) ?_
              simp only [Act.put, List.setIfInBounds_toArray, List.set_cons_zero, List.set_cons_succ]
              refine wpAnyH_take (i := 49) (oi := ⟨some 117, _, _, _, _, _⟩) (v := undef) rfl (by kernel_rfl) (by kernel_rfl) (by kernel_rfl) (fun _ _ _ h => h) (Or.inr ⟨by rfl, rfl⟩) (by assumption) ?_
              simp only [Act.put, List.setIfInBounds_toArray, List.set_cons_zero, List.set_cons_succ]
              refine wpAnyH_take (i := 50) (oi := ⟨some 118, _, _, _, _, _⟩) (v := undef) rfl (by kernel_rfl) (by kernel_rfl) (by kernel_rfl) (fun _ _ _ h => h) (Or.inr ⟨by rfl, rfl⟩) (by assumption) ?_
              simp only [Act.put, List.setIfInBounds_toArray, List.set_cons_zero, List.set_cons_succ]
              refine wpAnyH_take (i := 51) (oi := ⟨some 119, _, _, _, _, _⟩) (v := .bool true) rfl (by kernel_rfl) (by kernel_rfl) (by kernel_rfl) (fun _ _ _ h => h) (Or.inl ⟨by rfl, ?_⟩) (by assumption) ?_
              · intro w hSw; (try dsimp only at hSw); go_simp
              simp only [Act.put, List.setIfInBounds_toArray, List.set_cons_zero, List.set_cons_succ]
              refine wpAnyH_take (i := 52) (oi := ⟨some 120, _, _, _, _, _⟩) (v := .bool true) rfl (by kernel_rfl) (by kernel_rfl) (by kernel_rfl) (fun _ _ _ h => h) (Or.inl ⟨by rfl, ?_⟩) (by assumption) ?_
              · intro w hSw; (try dsimp only at hSw); go_simp
              simp only [Act.put, List.setIfInBounds_toArray, List.set_cons_zero, List.set_cons_succ]
              refine wpAnyH_take (i := 53) (oi := ⟨some 10, _, _, _, _, _⟩) (v := .bool true) rfl (by kernel_rfl) (by kernel_rfl) (by kernel_rfl) (fun _ _ _ h => h) (Or.inl ⟨by rfl, ?_⟩) (by assumption) ?_
              · intro w hSw; (try dsimp only at hSw); go_simp
              simp only [Act.put, List.setIfInBounds_toArray, List.set_cons_zero, List.set_cons_succ]
              refine wpAnyH_done (by kernel_rfl) ?_ _
              go_wp2
              go_ret
              exact ⟨rfl, HSx.out _ Hz3.out⟩
            · rw [hb0] at W4
              rw [decide_eq_true hoo] at SOO
              clear hb0 hoo
              have L : Hid (∀ wx, Below y4.heap.size y4 wx → (fun wx => wx.cell? ⟨g1, 1, none⟩ = some (.bool was.there) ∧ wx.cell? ⟨g1, 2, none⟩ = some (.slice B1 was.rc.length d1) ∧ wx.cell? ⟨g2, 1, none⟩ = some (.bool was.there) ∧ wx.cell? ⟨g3, 2, none⟩ = some (.slice B3 now.rc.length d3) ∧ wx.cell? ⟨x4.heap.size, 0, none⟩ = some (.int .i64 0) ∧ wx.cell? ⟨x4.heap.size, 2, none⟩ = some (.slice B4 b.rc.length d4)) wx) := Lib.hid fun wx hb => ⟨(W1.out.below hb W1.out.lt).cell 1, (W1.out.below hb W1.out.lt).cell 2, (W2.out.below hb W2.out.lt).cell 1, (W3.out.below hb W3.out.lt).cell 2, (W4.out.below hb W4.out.lt).cell 0, (W4.out.below hb W4.out.lt).cell 2⟩
              have p20 := W2.out.cell 0
              go_wp2_with fail
              clear p20
              have hS0 := L.out y4 (Below.refl _ _)
              refine wp_region_held_drew (S := fun wx => wx.cell? ⟨g1, 1, none⟩ = some (.bool was.there) ∧ wx.cell? ⟨g1, 2, none⟩ = some (.slice B1 was.rc.length d1) ∧ wx.cell? ⟨g2, 1, none⟩ = some (.bool was.there) ∧ wx.cell? ⟨g3, 2, none⟩ = some (.slice B3 now.rc.length d3) ∧ wx.cell? ⟨x4.heap.size, 0, none⟩ = some (.int .i64 0) ∧ wx.cell? ⟨x4.heap.size, 2, none⟩ = some (.slice B4 b.rc.length d4)) (by kernel_rfl) hS0 (fun hHeld => ?_)
              clear hS0
              refine wpAnyH_take (i := 0) (oi := ⟨some 68, _, _, _, _, _⟩) (v := .pointer (some ⟨g1, 2, none⟩)) rfl (by kernel_rfl) (by kernel_rfl) (by kernel_rfl) (fun _ _ _ h => h) (Or.inl ⟨by rfl, ?_⟩) (by assumption) ?_
              · intro w hSw; (try dsimp only at hSw); go_simp
              simp only [Act.put, List.setIfInBounds_toArray, List.set_cons_zero, List.set_cons_succ]
              refine wpAnyH_take (i := 1) (oi := ⟨some 69, _, _, _, _, _⟩) (v := .slice B1 was.rc.length d1) rfl (by kernel_rfl) (by kernel_rfl) (by kernel_rfl) (fun _ _ _ h => h) (Or.inl ⟨by rfl, ?_⟩) (by assumption) ?_
              · intro w hSw; (try dsimp only at hSw); go_simp
              simp only [Act.put, List.setIfInBounds_toArray, List.set_cons_zero, List.set_cons_succ]
              refine wpAnyH_take (i := 2) (oi := ⟨some 70, _, _, _, _, _⟩) (v := .slice A1 n1 c1) rfl (by kernel_rfl) (by kernel_rfl) (by kernel_rfl) (fun _ _ _ h => h) (Or.inl ⟨by rfl, ?_⟩) (by assumption) ?_
              · intro w hSw; (try dsimp only at hSw); go_simp
              simp only [Act.put, List.setIfInBounds_toArray, List.set_cons_zero, List.set_cons_succ]
              refine wpAnyH_ready (rs := [3]) (by kernel_rfl) (by simp) (AllReadyH.cons (o := ⟨some 71, _, _, _, _, _⟩) rfl (fun K hK => ?_) AllReadyH.nil)
              go_simp
              refine (SWO.out _ ((Below.refl y4.heap.size y4).drew)).mono ?_
              rintro e z1 ⟨rfl, hz1⟩
              have Hz1 : Hid (Below y4.heap.size y4 z1) := Lib.hid (((Below.refl y4.heap.size y4).drew).trans (hz1.mono ((Below.refl y4.heap.size y4).drew).size))
              clear hz1
              refine hK.out _ _ (L.out z1 Hz1.out) (fun _ => ?_)
              clear hK K
              refine wpAnyH_take (i := 4) (oi := ⟨some 72, _, _, _, _, _⟩) (v := .bool true) rfl (by kernel_rfl) (by kernel_rfl) (by kernel_rfl) (fun _ _ _ h => h) (Or.inl ⟨by rfl, ?_⟩) (by assumption) ?_
              · intro w hSw; (try dsimp only at hSw); go_simp
              simp only [Act.put, List.setIfInBounds_toArray, List.set_cons_zero, List.set_cons_succ]
              refine wpAnyH_take (i := 5) (oi := ⟨some 73, _, _, _, _, _⟩) (v := .pointer (some ⟨g2, 1, none⟩)) rfl (by kernel_rfl) (by kernel_rfl) (by kernel_rfl) (fun _ _ _ h => h) (Or.inl ⟨by rfl, ?_⟩) (by assumption) ?_
              · intro w hSw; (try dsimp only at hSw); go_simp
              simp only [Act.put, List.setIfInBounds_toArray, List.set_cons_zero, List.set_cons_succ]
              refine wpAnyH_take (i := 6) (oi := ⟨some 74, _, _, _, _, _⟩) (v := .bool was.there) rfl (by kernel_rfl) (by kernel_rfl) (by kernel_rfl) (fun _ _ _ h => h) (Or.inl ⟨by rfl, ?_⟩) (by assumption) ?_
              · intro w hSw; (try dsimp only at hSw); go_simp
              simp only [Act.put, List.setIfInBounds_toArray, List.set_cons_zero, List.set_cons_succ]
              refine wpAnyH_take (i := 7) (oi := ⟨some 75, _, _, _, _, _⟩) (v := .pointer (some ⟨g1, 1, none⟩)) rfl (by kernel_rfl) (by kernel_rfl) (by kernel_rfl) (fun _ _ _ h => h) (Or.inl ⟨by rfl, ?_⟩) (by assumption) ?_
              · intro w hSw; (try dsimp only at hSw); go_simp
              simp only [Act.put, List.setIfInBounds_toArray, List.set_cons_zero, List.set_cons_succ]
              refine wpAnyH_take (i := 8) (oi := ⟨some 76, _, _, _, _, _⟩) (v := .bool was.there) rfl (by kernel_rfl) (by kernel_rfl) (by kernel_rfl) (fun _ _ _ h => h) (Or.inl ⟨by rfl, ?_⟩) (by assumption) ?_
              · intro w hSw; (try dsimp only at hSw); go_simp
              simp only [Act.put, List.setIfInBounds_toArray, List.set_cons_zero, List.set_cons_succ]
              refine wpAnyH_take (i := 9) (oi := ⟨some 77, _, _, _, _, _⟩) (v := .bool true) rfl (by kernel_rfl) (by kernel_rfl) (by kernel_rfl) (fun _ _ _ h => h) (Or.inl ⟨by rfl, ?_⟩) (by assumption) ?_
              · intro w hSw; (try dsimp only at hSw); go_simp
              simp only [Act.put, List.setIfInBounds_toArray, List.set_cons_zero, List.set_cons_succ]
              refine wpAnyH_take (i := 10) (oi := ⟨some 78, _, _, _, _, _⟩) (v := .bool true) rfl (by kernel_rfl) (by kernel_rfl) (by kernel_rfl) (fun _ _ _ h => h) (Or.inl ⟨by rfl, ?_⟩) (by assumption) ?_
              · intro w hSw; (try dsimp only at hSw); go_simp
              simp only [Act.put, List.setIfInBounds_toArray, List.set_cons_zero, List.set_cons_succ]
              refine wpAnyH_take (i := 11) (oi := ⟨some 79, _, _, _, _, _⟩) (v := .bool true) rfl (by kernel_rfl) (by kernel_rfl) (by kernel_rfl) (fun _ _ _ h => h) (Or.inl ⟨by rfl, ?_⟩) (by assumption) ?_
              · intro w hSw; (try dsimp only at hSw); go_simp
              simp only [Act.put, List.setIfInBounds_toArray, List.set_cons_zero, List.set_cons_succ]
              refine wpAnyH_take (i := 12) (oi := ⟨some 80, _, _, _, _, _⟩) (v := .pointer (some ⟨g3, 2, none⟩)) rfl (by kernel_rfl) (by kernel_rfl) (by kernel_rfl) (fun _ _ _ h => h) (Or.inl ⟨by rfl, ?_⟩) (by assumption) ?_
              · intro w hSw; (try dsimp only at hSw); go_simp
              simp only [Act.put, List.setIfInBounds_toArray, List.set_cons_zero, List.set_cons_succ]
              refine wpAnyH_take (i := 13) (oi := ⟨some 81, _, _, _, _, _⟩) (v := .slice B3 now.rc.length d3) rfl (by kernel_rfl) (by kernel_rfl) (by kernel_rfl) (fun _ _ _ h => h) (Or.inl ⟨by rfl, ?_⟩) (by assumption) ?_
              · intro w hSw; (try dsimp only at hSw); go_simp
              simp only [Act.put, List.setIfInBounds_toArray, List.set_cons_zero, List.set_cons_succ]
              refine wpAnyH_take (i := 14) (oi := ⟨some 82, _, _, _, _, _⟩) (v := .slice A2 n2 c2) rfl (by kernel_rfl) (by kernel_rfl) (by kernel_rfl) (fun _ _ _ h => h) (Or.inl ⟨by rfl, ?_⟩) (by assumption) ?_
              · intro w hSw; (try dsimp only at hSw); go_simp
              simp only [Act.put, List.setIfInBounds_toArray, List.set_cons_zero, List.set_cons_succ]
              refine wpAnyH_ready (rs := [15]) (by kernel_rfl) (by simp) (AllReadyH.cons (o := ⟨some 83, _, _, _, _, _⟩) rfl (fun K hK => ?_) AllReadyH.nil)
              go_simp
              refine (SNO.out _ (Hz1.out)).mono ?_
              rintro e z2 ⟨rfl, hz2⟩
              have Hz2 : Hid (Below y4.heap.size y4 z2) := Lib.hid ((Hz1.out).trans (hz2.mono (Hz1.out).size))
              clear hz2
              refine hK.out _ _ (L.out z2 Hz2.out) (fun _ => ?_)
              clear hK K
              refine wpAnyH_take (i := 16) (oi := ⟨some 84, _, _, _, _, _⟩) (v := .bool true) rfl (by kernel_rfl) (by kernel_rfl) (by kernel_rfl) (fun _ _ _ h => h) (Or.inl ⟨by rfl, ?_⟩) (by assumption) ?_
              · intro w hSw; (try dsimp only at hSw); go_simp
              simp only [Act.put, List.setIfInBounds_toArray, List.set_cons_zero, List.set_cons_succ]
              refine wpAnyH_take (i := 17) (oi := ⟨some 85, _, _, _, _, _⟩) (v := .bool true) rfl (by kernel_rfl) (by kernel_rfl) (by kernel_rfl) (fun _ _ _ h => h) (Or.inl ⟨by rfl, ?_⟩) (by assumption) ?_
              · intro w hSw; (try dsimp only at hSw); go_simp
              simp only [Act.put, List.setIfInBounds_toArray, List.set_cons_zero, List.set_cons_succ]
              refine wpAnyH_take (i := 18) (oi := ⟨some 86, _, _, _, _, _⟩) (v := .pointer (some ⟨x4.heap.size, 0, none⟩)) rfl (by kernel_rfl) (by kernel_rfl) (by kernel_rfl) (fun _ _ _ h => h) (Or.inl ⟨by rfl, ?_⟩) (by assumption) ?_
              · intro w hSw; (try dsimp only at hSw); go_simp
              simp only [Act.put, List.setIfInBounds_toArray, List.set_cons_zero, List.set_cons_succ]
              refine wpAnyH_take (i := 19) (oi := ⟨some 87, _, _, _, _, _⟩) (v := .int .i64 0) rfl (by kernel_rfl) (by kernel_rfl) (by kernel_rfl) (fun _ _ _ h => h) (Or.inl ⟨by rfl, ?_⟩) (by assumption) ?_
              · intro w hSw; (try dsimp only at hSw); go_simp
              simp only [Act.put, List.setIfInBounds_toArray, List.set_cons_zero, List.set_cons_succ]
              refine wpAnyH_take (i := 20) (oi := ⟨some 88, _, _, _, _, _⟩) (v := .bool false) rfl (by kernel_rfl) (by kernel_rfl) (by kernel_rfl) (fun _ _ _ h => h) (Or.inl ⟨by rfl, ?_⟩) (by assumption) ?_
              · intro w hSw; (try dsimp only at hSw); go_simp
              simp only [Act.put, List.setIfInBounds_toArray, List.set_cons_zero, List.set_cons_succ]
              refine wpAnyH_take (i := 21) (oi := ⟨some 89, _, _, _, _, _⟩) (v := .bool false) rfl (by kernel_rfl) (by kernel_rfl) (by kernel_rfl) (fun _ _ _ h => h) (Or.inl ⟨by rfl, ?_⟩) (by assumption) ?_
              · intro w hSw; (try dsimp only at hSw); go_simp
              simp only [Act.put, List.setIfInBounds_toArray, List.set_cons_zero, List.set_cons_succ]
              refine wpAnyH_take (i := 22) (oi := ⟨some 90, _, _, _, _, _⟩) (v := undef) rfl (by kernel_rfl) (by kernel_rfl) (by kernel_rfl) (fun _ _ _ h => h) (Or.inr ⟨by rfl, rfl⟩) (by assumption) ?_
              simp only [Act.put, List.setIfInBounds_toArray, List.set_cons_zero, List.set_cons_succ]
              refine wpAnyH_take (i := 23) (oi := ⟨some 91, _, _, _, _, _⟩) (v := undef) rfl (by kernel_rfl) (by kernel_rfl) (by kernel_rfl) (fun _ _ _ h => h) (Or.inr ⟨by rfl, rfl⟩) (by assumption) ?_
              simp only [Act.put, List.setIfInBounds_toArray, List.set_cons_zero, List.set_cons_succ]
              refine wpAnyH_take (i := 24) (oi := ⟨some 92, _, _, _, _, _⟩) (v := undef) rfl (by kernel_rfl) (by kernel_rfl) (by kernel_rfl) (fun _ _ _ h => h) (Or.inr ⟨by rfl, rfl⟩) (by assumption) ?_
              simp only [Act.put, List.setIfInBounds_toArray, List.set_cons_zero, List.set_cons_succ]
              refine wpAnyH_take (i := 25) (oi := ⟨some 93, _, _, _, _, _⟩) (v := undef) rfl (by kernel_rfl) (by kernel_rfl) (by kernel_rfl) (fun _ _ _ h => h) (Or.inr ⟨by rfl, rfl⟩) (by assumption) ?_
              simp only [Act.put, List.setIfInBounds_toArray, List.set_cons_zero, List.set_cons_succ]
              refine wpAnyH_take (i := 26) (oi := ⟨some 94, _, _, _, _, _⟩) (v := .bool false) rfl (by kernel_rfl) (by kernel_rfl) (by kernel_rfl) (fun _ _ _ h => h) (Or.inl ⟨by rfl, ?_⟩) (by assumption) ?_
              · intro w hSw; (try dsimp only at hSw); go_simp
              simp only [Act.put, List.setIfInBounds_toArray, List.set_cons_zero, List.set_cons_succ]
              refine wpAnyH_take (i := 27) (oi := ⟨some 95, _, _, _, _, _⟩) (v := .bool false) rfl (by kernel_rfl) (by kernel_rfl) (by kernel_rfl) (fun _ _ _ h => h) (Or.inl ⟨by rfl, ?_⟩) (by assumption) ?_
              · intro w hSw; (try dsimp only at hSw); go_simp
              simp only [Act.put, List.setIfInBounds_toArray, List.set_cons_zero, List.set_cons_succ]
              refine wpAnyH_take (i := 28) (oi := ⟨some 96, _, _, _, _, _⟩) (v := .pointer (some ⟨x4.heap.size, 0, none⟩)) rfl (by kernel_rfl) (by kernel_rfl) (by kernel_rfl) (fun _ _ _ h => h) (Or.inl ⟨by rfl, ?_⟩) (by assumption) ?_
              · intro w hSw; (try dsimp only at hSw); go_simp
              simp only [Act.put, List.setIfInBounds_toArray, List.set_cons_zero, List.set_cons_succ]
              refine wpAnyH_take (i := 29) (oi := ⟨some 97, _, _, _, _, _⟩) (v := .int .i64 0) rfl (by kernel_rfl) (by kernel_rfl) (by kernel_rfl) (fun _ _ _ h => h) (Or.inl ⟨by rfl, ?_⟩) (by assumption) ?_
              · intro w hSw; (try dsimp only at hSw); go_simp
              simp only [Act.put, List.setIfInBounds_toArray, List.set_cons_zero, List.set_cons_succ]
              refine wpAnyH_take (i := 30) (oi := ⟨some 98, _, _, _, _, _⟩) (v := .bool true) rfl (by kernel_rfl) (by kernel_rfl) (by kernel_rfl) (fun _ _ _ h => h) (Or.inl ⟨by rfl, ?_⟩) (by assumption) ?_
              · intro w hSw; (try dsimp only at hSw); go_simp
              simp only [Act.put, List.setIfInBounds_toArray, List.set_cons_zero, List.set_cons_succ]
              refine wpAnyH_take (i := 31) (oi := ⟨some 99, _, _, _, _, _⟩) (v := .bool true) rfl (by kernel_rfl) (by kernel_rfl) (by kernel_rfl) (fun _ _ _ h => h) (Or.inl ⟨by rfl, ?_⟩) (by assumption) ?_
              · intro w hSw; (try dsimp only at hSw); go_simp
              simp only [Act.put, List.setIfInBounds_toArray, List.set_cons_zero, List.set_cons_succ]
              refine wpAnyH_take (i := 32) (oi := ⟨some 100, _, _, _, _, _⟩) (v := .slice A2 n2 c2) rfl (by kernel_rfl) (by kernel_rfl) (by kernel_rfl) (fun _ _ _ h => h) (Or.inl ⟨by rfl, ?_⟩) (by assumption) ?_
              · intro w hSw; (try dsimp only at hSw); go_simp
              simp only [Act.put, List.setIfInBounds_toArray, List.set_cons_zero, List.set_cons_succ]
              refine wpAnyH_take (i := 33) (oi := ⟨some 101, _, _, _, _, _⟩) (v := .slice A1 n1 c1) rfl (by kernel_rfl) (by kernel_rfl) (by kernel_rfl) (fun _ _ _ h => h) (Or.inl ⟨by rfl, ?_⟩) (by assumption) ?_
              · intro w hSw; (try dsimp only at hSw); go_simp
              simp only [Act.put, List.setIfInBounds_toArray, List.set_cons_zero, List.set_cons_succ]
              refine wpAnyH_ready (rs := [34]) (by kernel_rfl) (by simp) (AllReadyH.cons (o := ⟨some 102, _, _, _, _, _⟩) rfl (fun K hK => ?_) AllReadyH.nil)
              go_simp
              refine (SOO.out _ (Hz2.out)).mono ?_
              rintro e z3 ⟨rfl, hz3⟩
              have Hz3 : Hid (Below y4.heap.size y4 z3) := Lib.hid ((Hz2.out).trans (hz3.mono (Hz2.out).size))
              clear hz3
              refine hK.out _ _ (L.out z3 Hz3.out) (fun _ => ?_)
              clear hK K
              refine wpAnyH_take (i := 35) (oi := ⟨some 103, _, _, _, _, _⟩) (v := .bool true) rfl (by kernel_rfl) (by kernel_rfl) (by kernel_rfl) (fun _ _ _ h => h) (Or.inl ⟨by rfl, ?_⟩) (by assumption) ?_
              · intro w hSw; (try dsimp only at hSw); go_simp
              simp only [Act.put, List.setIfInBounds_toArray, List.set_cons_zero, List.set_cons_succ]
              refine wpAnyH_take (i := 36) (oi := ⟨some 104, _, _, _, _, _⟩) (v := .bool true) rfl (by kernel_rfl) (by kernel_rfl) (by kernel_rfl) (fun _ _ _ h => h) (Or.inl ⟨by rfl, ?_⟩) (by assumption) ?_
              · intro w hSw; (try dsimp only at hSw); go_simp
              simp only [Act.put, List.setIfInBounds_toArray, List.set_cons_zero, List.set_cons_succ]
              refine wpAnyH_take (i := 37) (oi := ⟨some 105, _, _, _, _, _⟩) (v := .bool true) rfl (by kernel_rfl) (by kernel_rfl) (by kernel_rfl) (fun _ _ _ h => h) (Or.inl ⟨by rfl, ?_⟩) (by assumption) ?_
              · intro w hSw; (try dsimp only at hSw); go_simp
              simp only [Act.put, List.setIfInBounds_toArray, List.set_cons_zero, List.set_cons_succ]
              refine wpAnyH_take (i := 38) (oi := ⟨some 106, _, _, _, _, _⟩) (v := undef) rfl (by kernel_rfl) (by kernel_rfl) (by kernel_rfl) (fun _ _ _ h => h) (Or.inr ⟨by rfl, rfl⟩) (by assumption) ?_
              simp only [Act.put, List.setIfInBounds_toArray, List.set_cons_zero, List.set_cons_succ]
              refine wpAnyH_take (i := 39) (oi := ⟨some 107, _, _, _, _, _⟩) (v := undef) rfl (by kernel_rfl) (by kernel_rfl) (by kernel_rfl) (fun _ _ _ h => h) (Or.inr ⟨by rfl, rfl⟩) (by assumption) ?_
              simp only [Act.put, List.setIfInBounds_toArray, List.set_cons_zero, List.set_cons_succ]
              refine wpAnyH_take (i := 40) (oi := ⟨some 108, _, _, _, _, _⟩) (v := undef) rfl (by kernel_rfl) (by kernel_rfl) (by kernel_rfl) (fun _ _ _ h => h) (Or.inr ⟨by rfl, rfl⟩) (by assumption) ?_
              simp only [Act.put, List.setIfInBounds_toArray, List.set_cons_zero, List.set_cons_succ]
              refine wpAnyH_take (i := 41) (oi := ⟨some 109, _, _, _, _, _⟩) (v := undef) rfl (by kernel_rfl) (by kernel_rfl) (by kernel_rfl) (fun _ _ _ h => h) (Or.inr ⟨by rfl, rfl⟩) (by assumption) ?_
              simp only [Act.put, List.setIfInBounds_toArray, List.set_cons_zero, List.set_cons_succ]
              refine wpAnyH_take (i := 42) (oi := ⟨some 110, _, _, _, _, _⟩) (v := undef) rfl (by kernel_rfl) (by kernel_rfl) (by kernel_rfl) (fun _ _ _ h => h) (Or.inr ⟨by rfl, rfl⟩) (by assumption) ?_
              simp only [Act.put, List.setIfInBounds_toArray, List.set_cons_zero, List.set_cons_succ]
              refine wpAnyH_take (i := 43) (oi := ⟨some 111, _, _, _, _, _⟩) (v := undef) rfl (by kernel_rfl) (by kernel_rfl) (by kernel_rfl) (fun _ _ _ h => h) (Or.inr ⟨by rfl, rfl⟩) (by assumption) ?_
              simp only [Act.put, List.setIfInBounds_toArray, List.set_cons_zero, List.set_cons_succ]
              refine wpAnyH_take (i := 44) (oi := ⟨some 112, _, _, _, _, _⟩) (v := undef) rfl (by kernel_rfl) (by kernel_rfl) (by kernel_rfl) (fun _ _ _ h => h) (Or.inr ⟨by rfl, rfl⟩) (by assumption) ?_
              simp only [Act.put, List.setIfInBounds_toArray, List.set_cons_zero, List.set_cons_succ]
              refine wpAnyH_take (i := 45) (oi := ⟨some 113, _, _, _, _, _⟩) (v := undef) rfl (by kernel_rfl) (by kernel_rfl) (by kernel_rfl) (fun _ _ _ h => h) (Or.inr ⟨by rfl, rfl⟩) (by assumption) ?_
              simp only [Act.put, List.setIfInBounds_toArray, List.set_cons_zero, List.set_cons_succ]
              refine wpAnyH_take (i := 46) (oi := ⟨some 114, _, _, _, _, _⟩) (v := undef) rfl (by kernel_rfl) (by kernel_rfl) (by kernel_rfl) (fun _ _ _ h => h) (Or.inr ⟨by rfl, rfl⟩) (by assumption) ?_
              simp only [Act.put, List.setIfInBounds_toArray, List.set_cons_zero, List.set_cons_succ]
              refine wpAnyH_take (i := 47) (oi := ⟨some 115, _, _, _, _, _⟩) (v := undef) rfl (by kernel_rfl) (by kernel_rfl) (by kernel_rfl) (fun _ _ _ h => h) (Or.inr ⟨by rfl, rfl⟩) (by assumption) ?_
              simp only [Act.put, List.setIfInBounds_toArray, List.set_cons_zero, List.set_cons_succ]
              refine wpAnyH_take (i := 48) (oi := ⟨some 116, _, _, _, _, _⟩) (v := undef) rfl (by kernel_rfl) (by kernel_rfl) (by kernel_rfl) (fun _ _ _ h => h) (Or.inr ⟨by rfl, rfl⟩) (by assumption) ?_
              simp only [Act.put, List.setIfInBounds_toArray, List.set_cons_zero, List.set_cons_succ]
              refine wpAnyH_take (i := 49) (oi := ⟨some 117, _, _, _, _, _⟩) (v := undef) rfl (by kernel_rfl) (by kernel_rfl) (by kernel_rfl) (fun _ _ _ h => h) (Or.inr ⟨by rfl, rfl⟩) (by assumption) ?_
              simp only [Act.put, List.setIfInBounds_toArray, List.set_cons_zero, List.set_cons_succ]
              refine wpAnyH_take (i := 50) (oi := ⟨some 118, _, _, _, _, _⟩) (v := undef) rfl (by kernel_rfl) (by kernel_rfl) (by kernel_rfl) (fun _ _ _ h => h) (Or.inr ⟨by rfl, rfl⟩) (by assumption) ?_
              simp only [Act.put, List.setIfInBounds_toArray, List.set_cons_zero, List.set_cons_succ]
              refine wpAnyH_take (i := 51) (oi := ⟨some 119, _, _, _, _, _⟩) (v := .bool true) rfl (by kernel_rfl) (by kernel_rfl) (by kernel_rfl) (fun _ _ _ h => h) (Or.inl ⟨by rfl, ?_⟩) (by assumption) ?_
              · intro w hSw; (try dsimp only at hSw); go_simp
              simp only [Act.put, List.setIfInBounds_toArray, List.set_cons_zero, List.set_cons_succ]
              refine wpAnyH_take (i := 52) (oi := ⟨some 120, _, _, _, _, _⟩) (v := .bool true) rfl (by kernel_rfl) (by kernel_rfl) (by kernel_rfl) (fun _ _ _ h => h) (Or.inl ⟨by rfl, ?_⟩) (by assumption) ?_
              · intro w hSw; (try dsimp only at hSw); go_simp
              simp only [Act.put, List.setIfInBounds_toArray, List.set_cons_zero, List.set_cons_succ]
              refine wpAnyH_take (i := 53) (oi := ⟨some 10, _, _, _, _, _⟩) (v := .bool true) rfl (by kernel_rfl) (by kernel_rfl) (by kernel_rfl) (fun _ _ _ h => h) (Or.inl ⟨by rfl, ?_⟩) (by assumption) ?_
              · intro w hSw; (try dsimp only at hSw); go_simp
              simp only [Act.put, List.setIfInBounds_toArray, List.set_cons_zero, List.set_cons_succ]
              refine wpAnyH_done (by kernel_rfl) ?_ _
              go_wp2
              go_ret
              exact ⟨rfl, HSx.out _ Hz3.out⟩
            · have CHK := Lib.hid (fun wx (hb : Below y4.heap.size y4 wx) => refCheck_any _ (casOp key old two) w.heap.size wx (HSx.out wx hb).size ⟨.slice A3 n3 c3, .slice A1 n1 c1, .slice none 0 0, .slice none 0 0, .slice none 0 0, rfl, H3.out.belowOf (HSx.out wx hb) (Nat.le_refl _), H1.out.belowOf (HSx.out wx hb) (Nat.le_refl _), isInts_nil _ _, isVals_nil _ _, isVals_nil _ _⟩)
              unfold RefChecked opCells casOp at CHK
              dsimp only at CHK
              have hq : checkT (casOp key old two) = checkT ⟨4, key, ⟨#[]⟩, two, old, 0, [], [], [], 0, 0, 0⟩ := rfl
              rw [hq] at hbq
              generalize checkT ⟨4, key, ⟨#[]⟩, two, old, 0, [], [], [], 0, 0, 0⟩ = q at CHK hbq
              rw [hbq] at W4 hb9 hb0
              have q9 : ((q : Int) == 9) = false := by simpa using hb9
              have q0 : ((q : Int) == 0) = false := by simpa using hb0
              have qn : ((q : Int) != 0) = true := by simpa using hb0
              have qq : ((q : Int) == (q : Int)) = true := by simp
              clear hb9 hb0 hbq hq
              have L : Hid (∀ wx, Below y4.heap.size y4 wx → (fun wx => wx.cell? ⟨g1, 1, none⟩ = some (.bool was.there) ∧ wx.cell? ⟨g1, 2, none⟩ = some (.slice B1 was.rc.length d1) ∧ wx.cell? ⟨g2, 1, none⟩ = some (.bool was.there) ∧ wx.cell? ⟨g3, 2, none⟩ = some (.slice B3 now.rc.length d3) ∧ wx.cell? ⟨x4.heap.size, 0, none⟩ = some (.int .i64 (q : Int)) ∧ wx.cell? ⟨x4.heap.size, 2, none⟩ = some (.slice B4 b.rc.length d4)) wx) := Lib.hid fun wx hb => ⟨(W1.out.below hb W1.out.lt).cell 1, (W1.out.below hb W1.out.lt).cell 2, (W2.out.below hb W2.out.lt).cell 1, (W3.out.below hb W3.out.lt).cell 2, (W4.out.below hb W4.out.lt).cell 0, (W4.out.below hb W4.out.lt).cell 2⟩
              have p20 := W2.out.cell 0
              go_wp2_with fail
              clear p20
              have hS0 := L.out y4 (Below.refl _ _)
              refine wp_region_held_drew (S := fun wx => wx.cell? ⟨g1, 1, none⟩ = some (.bool was.there) ∧ wx.cell? ⟨g1, 2, none⟩ = some (.slice B1 was.rc.length d1) ∧ wx.cell? ⟨g2, 1, none⟩ = some (.bool was.there) ∧ wx.cell? ⟨g3, 2, none⟩ = some (.slice B3 now.rc.length d3) ∧ wx.cell? ⟨x4.heap.size, 0, none⟩ = some (.int .i64 (q : Int)) ∧ wx.cell? ⟨x4.heap.size, 2, none⟩ = some (.slice B4 b.rc.length d4)) (by kernel_rfl) hS0 (fun hHeld => ?_)
              clear hS0
              refine wpAnyH_take (i := 0) (oi := ⟨some 68, _, _, _, _, _⟩) (v := .pointer (some ⟨g1, 2, none⟩)) rfl (by kernel_rfl) (by kernel_rfl) (by kernel_rfl) (fun _ _ _ h => h) (Or.inl ⟨by rfl, ?_⟩) (by assumption) ?_
              · intro w hSw; (try dsimp only at hSw); go_simp
              simp only [Act.put, List.setIfInBounds_toArray, List.set_cons_zero, List.set_cons_succ]
              refine wpAnyH_take (i := 1) (oi := ⟨some 69, _, _, _, _, _⟩) (v := .slice B1 was.rc.length d1) rfl (by kernel_rfl) (by kernel_rfl) (by kernel_rfl) (fun _ _ _ h => h) (Or.inl ⟨by rfl, ?_⟩) (by assumption) ?_
              · intro w hSw; (try dsimp only at hSw); go_simp
              simp only [Act.put, List.setIfInBounds_toArray, List.set_cons_zero, List.set_cons_succ]
              refine wpAnyH_take (i := 2) (oi := ⟨some 70, _, _, _, _, _⟩) (v := .slice A1 n1 c1) rfl (by kernel_rfl) (by kernel_rfl) (by kernel_rfl) (fun _ _ _ h => h) (Or.inl ⟨by rfl, ?_⟩) (by assumption) ?_
              · intro w hSw; (try dsimp only at hSw); go_simp
              simp only [Act.put, List.setIfInBounds_toArray, List.set_cons_zero, List.set_cons_succ]
              refine wpAnyH_ready (rs := [3]) (by kernel_rfl) (by simp) (AllReadyH.cons (o := ⟨some 71, _, _, _, _, _⟩) rfl (fun K hK => ?_) AllReadyH.nil)
              go_simp
              refine (SWO.out _ ((Below.refl y4.heap.size y4).drew)).mono ?_
              rintro e z1 ⟨rfl, hz1⟩
              have Hz1 : Hid (Below y4.heap.size y4 z1) := Lib.hid (((Below.refl y4.heap.size y4).drew).trans (hz1.mono ((Below.refl y4.heap.size y4).drew).size))
              clear hz1
              refine hK.out _ _ (L.out z1 Hz1.out) (fun _ => ?_)
              clear hK K
              refine wpAnyH_take (i := 4) (oi := ⟨some 72, _, _, _, _, _⟩) (v := .bool true) rfl (by kernel_rfl) (by kernel_rfl) (by kernel_rfl) (fun _ _ _ h => h) (Or.inl ⟨by rfl, ?_⟩) (by assumption) ?_
              · intro w hSw; (try dsimp only at hSw); go_simp
              simp only [Act.put, List.setIfInBounds_toArray, List.set_cons_zero, List.set_cons_succ]
              refine wpAnyH_take (i := 5) (oi := ⟨some 73, _, _, _, _, _⟩) (v := .pointer (some ⟨g2, 1, none⟩)) rfl (by kernel_rfl) (by kernel_rfl) (by kernel_rfl) (fun _ _ _ h => h) (Or.inl ⟨by rfl, ?_⟩) (by assumption) ?_
              · intro w hSw; (try dsimp only at hSw); go_simp
              simp only [Act.put, List.setIfInBounds_toArray, List.set_cons_zero, List.set_cons_succ]
              refine wpAnyH_take (i := 6) (oi := ⟨some 74, _, _, _, _, _⟩) (v := .bool was.there) rfl (by kernel_rfl) (by kernel_rfl) (by kernel_rfl) (fun _ _ _ h => h) (Or.inl ⟨by rfl, ?_⟩) (by assumption) ?_
              · intro w hSw; (try dsimp only at hSw); go_simp
              simp only [Act.put, List.setIfInBounds_toArray, List.set_cons_zero, List.set_cons_succ]
              refine wpAnyH_take (i := 7) (oi := ⟨some 75, _, _, _, _, _⟩) (v := .pointer (some ⟨g1, 1, none⟩)) rfl (by kernel_rfl) (by kernel_rfl) (by kernel_rfl) (fun _ _ _ h => h) (Or.inl ⟨by rfl, ?_⟩) (by assumption) ?_
              · intro w hSw; (try dsimp only at hSw); go_simp
              simp only [Act.put, List.setIfInBounds_toArray, List.set_cons_zero, List.set_cons_succ]
              refine wpAnyH_take (i := 8) (oi := ⟨some 76, _, _, _, _, _⟩) (v := .bool was.there) rfl (by kernel_rfl) (by kernel_rfl) (by kernel_rfl) (fun _ _ _ h => h) (Or.inl ⟨by rfl, ?_⟩) (by assumption) ?_
              · intro w hSw; (try dsimp only at hSw); go_simp
              simp only [Act.put, List.setIfInBounds_toArray, List.set_cons_zero, List.set_cons_succ]
              refine wpAnyH_take (i := 9) (oi := ⟨some 77, _, _, _, _, _⟩) (v := .bool true) rfl (by kernel_rfl) (by kernel_rfl) (by kernel_rfl) (fun _ _ _ h => h) (Or.inl ⟨by rfl, ?_⟩) (by assumption) ?_
              · intro w hSw; (try dsimp only at hSw); go_simp
              simp only [Act.put, List.setIfInBounds_toArray, List.set_cons_zero, List.set_cons_succ]
              refine wpAnyH_take (i := 10) (oi := ⟨some 78, _, _, _, _, _⟩) (v := .bool true) rfl (by kernel_rfl) (by kernel_rfl) (by kernel_rfl) (fun _ _ _ h => h) (Or.inl ⟨by rfl, ?_⟩) (by assumption) ?_
              · intro w hSw; (try dsimp only at hSw); go_simp
              simp only [Act.put, List.setIfInBounds_toArray, List.set_cons_zero, List.set_cons_succ]
              refine wpAnyH_take (i := 11) (oi := ⟨some 79, _, _, _, _, _⟩) (v := .bool true) rfl (by kernel_rfl) (by kernel_rfl) (by kernel_rfl) (fun _ _ _ h => h) (Or.inl ⟨by rfl, ?_⟩) (by assumption) ?_
              · intro w hSw; (try dsimp only at hSw); go_simp
              simp only [Act.put, List.setIfInBounds_toArray, List.set_cons_zero, List.set_cons_succ]
              refine wpAnyH_take (i := 12) (oi := ⟨some 80, _, _, _, _, _⟩) (v := .pointer (some ⟨g3, 2, none⟩)) rfl (by kernel_rfl) (by kernel_rfl) (by kernel_rfl) (fun _ _ _ h => h) (Or.inl ⟨by rfl, ?_⟩) (by assumption) ?_
              · intro w hSw; (try dsimp only at hSw); go_simp
              simp only [Act.put, List.setIfInBounds_toArray, List.set_cons_zero, List.set_cons_succ]
              refine wpAnyH_take (i := 13) (oi := ⟨some 81, _, _, _, _, _⟩) (v := .slice B3 now.rc.length d3) rfl (by kernel_rfl) (by kernel_rfl) (by kernel_rfl) (fun _ _ _ h => h) (Or.inl ⟨by rfl, ?_⟩) (by assumption) ?_
              · intro w hSw; (try dsimp only at hSw); go_simp
              simp only [Act.put, List.setIfInBounds_toArray, List.set_cons_zero, List.set_cons_succ]
              refine wpAnyH_take (i := 14) (oi := ⟨some 82, _, _, _, _, _⟩) (v := .slice A2 n2 c2) rfl (by kernel_rfl) (by kernel_rfl) (by kernel_rfl) (fun _ _ _ h => h) (Or.inl ⟨by rfl, ?_⟩) (by assumption) ?_
              · intro w hSw; (try dsimp only at hSw); go_simp
              simp only [Act.put, List.setIfInBounds_toArray, List.set_cons_zero, List.set_cons_succ]
              refine wpAnyH_ready (rs := [15]) (by kernel_rfl) (by simp) (AllReadyH.cons (o := ⟨some 83, _, _, _, _, _⟩) rfl (fun K hK => ?_) AllReadyH.nil)
              go_simp
              refine (SNO.out _ (Hz1.out)).mono ?_
              rintro e z2 ⟨rfl, hz2⟩
              have Hz2 : Hid (Below y4.heap.size y4 z2) := Lib.hid ((Hz1.out).trans (hz2.mono (Hz1.out).size))
              clear hz2
              refine hK.out _ _ (L.out z2 Hz2.out) (fun _ => ?_)
              clear hK K
              refine wpAnyH_take (i := 16) (oi := ⟨some 84, _, _, _, _, _⟩) (v := .bool true) rfl (by kernel_rfl) (by kernel_rfl) (by kernel_rfl) (fun _ _ _ h => h) (Or.inl ⟨by rfl, ?_⟩) (by assumption) ?_
              · intro w hSw; (try dsimp only at hSw); go_simp
              simp only [Act.put, List.setIfInBounds_toArray, List.set_cons_zero, List.set_cons_succ]
              refine wpAnyH_take (i := 17) (oi := ⟨some 85, _, _, _, _, _⟩) (v := .bool true) rfl (by kernel_rfl) (by kernel_rfl) (by kernel_rfl) (fun _ _ _ h => h) (Or.inl ⟨by rfl, ?_⟩) (by assumption) ?_
              · intro w hSw; (try dsimp only at hSw); go_simp
              simp only [Act.put, List.setIfInBounds_toArray, List.set_cons_zero, List.set_cons_succ]
              refine wpAnyH_take (i := 18) (oi := ⟨some 86, _, _, _, _, _⟩) (v := .pointer (some ⟨x4.heap.size, 0, none⟩)) rfl (by kernel_rfl) (by kernel_rfl) (by kernel_rfl) (fun _ _ _ h => h) (Or.inl ⟨by rfl, ?_⟩) (by assumption) ?_
              · intro w hSw; (try dsimp only at hSw); go_simp
              simp only [Act.put, List.setIfInBounds_toArray, List.set_cons_zero, List.set_cons_succ]
              refine wpAnyH_take (i := 19) (oi := ⟨some 87, _, _, _, _, _⟩) (v := .int .i64 (q : Int)) rfl (by kernel_rfl) (by kernel_rfl) (by kernel_rfl) (fun _ _ _ h => h) (Or.inl ⟨by rfl, ?_⟩) (by assumption) ?_
              · intro w hSw; (try dsimp only at hSw); go_simp
              simp only [Act.put, List.setIfInBounds_toArray, List.set_cons_zero, List.set_cons_succ]
              refine wpAnyH_take (i := 20) (oi := ⟨some 88, _, _, _, _, _⟩) (v := .bool false) rfl (by kernel_rfl) (by kernel_rfl) (by kernel_rfl) (fun _ _ _ h => h) (Or.inl ⟨by rfl, ?_⟩) (by assumption) ?_
              · intro w hSw; (try dsimp only at hSw); go_simp
              simp only [Act.put, List.setIfInBounds_toArray, List.set_cons_zero, List.set_cons_succ]
              refine wpAnyH_take (i := 21) (oi := ⟨some 89, _, _, _, _, _⟩) (v := .bool false) rfl (by kernel_rfl) (by kernel_rfl) (by kernel_rfl) (fun _ _ _ h => h) (Or.inl ⟨by rfl, ?_⟩) (by assumption) ?_
              · intro w hSw; (try dsimp only at hSw); go_simp
              simp only [Act.put, List.setIfInBounds_toArray, List.set_cons_zero, List.set_cons_succ]
              refine wpAnyH_take (i := 22) (oi := ⟨some 90, _, _, _, _, _⟩) (v := undef) rfl (by kernel_rfl) (by kernel_rfl) (by kernel_rfl) (fun _ _ _ h => h) (Or.inr ⟨by rfl, rfl⟩) (by assumption) ?_
              simp only [Act.put, List.setIfInBounds_toArray, List.set_cons_zero, List.set_cons_succ]
              refine wpAnyH_take (i := 23) (oi := ⟨some 91, _, _, _, _, _⟩) (v := undef) rfl (by kernel_rfl) (by kernel_rfl) (by kernel_rfl) (fun _ _ _ h => h) (Or.inr ⟨by rfl, rfl⟩) (by assumption) ?_
              simp only [Act.put, List.setIfInBounds_toArray, List.set_cons_zero, List.set_cons_succ]
              refine wpAnyH_take (i := 24) (oi := ⟨some 92, _, _, _, _, _⟩) (v := undef) rfl (by kernel_rfl) (by kernel_rfl) (by kernel_rfl) (fun _ _ _ h => h) (Or.inr ⟨by rfl, rfl⟩) (by assumption) ?_
              simp only [Act.put, List.setIfInBounds_toArray, List.set_cons_zero, List.set_cons_succ]
              refine wpAnyH_take (i := 25) (oi := ⟨some 93, _, _, _, _, _⟩) (v := undef) rfl (by kernel_rfl) (by kernel_rfl) (by kernel_rfl) (fun _ _ _ h => h) (Or.inr ⟨by rfl, rfl⟩) (by assumption) ?_
              simp only [Act.put, List.setIfInBounds_toArray, List.set_cons_zero, List.set_cons_succ]
              refine wpAnyH_take (i := 26) (oi := ⟨some 94, _, _, _, _, _⟩) (v := .bool false) rfl (by kernel_rfl) (by kernel_rfl) (by kernel_rfl) (fun _ _ _ h => h) (Or.inl ⟨by rfl, ?_⟩) (by assumption) ?_
              · intro w hSw; (try dsimp only at hSw); go_simp
              simp only [Act.put, List.setIfInBounds_toArray, List.set_cons_zero, List.set_cons_succ]
              refine wpAnyH_take (i := 27) (oi := ⟨some 95, _, _, _, _, _⟩) (v := .bool false) rfl (by kernel_rfl) (by kernel_rfl) (by kernel_rfl) (fun _ _ _ h => h) (Or.inl ⟨by rfl, ?_⟩) (by assumption) ?_
              · intro w hSw; (try dsimp only at hSw); go_simp
              simp only [Act.put, List.setIfInBounds_toArray, List.set_cons_zero, List.set_cons_succ]
              refine wpAnyH_take (i := 28) (oi := ⟨some 96, _, _, _, _, _⟩) (v := .pointer (some ⟨x4.heap.size, 0, none⟩)) rfl (by kernel_rfl) (by kernel_rfl) (by kernel_rfl) (fun _ _ _ h => h) (Or.inl ⟨by rfl, ?_⟩) (by assumption) ?_
              · intro w hSw; (try dsimp only at hSw); go_simp
              simp only [Act.put, List.setIfInBounds_toArray, List.set_cons_zero, List.set_cons_succ]
              refine wpAnyH_take (i := 29) (oi := ⟨some 97, _, _, _, _, _⟩) (v := .int .i64 (q : Int)) rfl (by kernel_rfl) (by kernel_rfl) (by kernel_rfl) (fun _ _ _ h => h) (Or.inl ⟨by rfl, ?_⟩) (by assumption) ?_
              · intro w hSw; (try dsimp only at hSw); go_simp
              simp only [Act.put, List.setIfInBounds_toArray, List.set_cons_zero, List.set_cons_succ]
              refine wpAnyH_take (i := 30) (oi := ⟨some 98, _, _, _, _, _⟩) (v := .bool false) rfl (by kernel_rfl) (by kernel_rfl) (by kernel_rfl) (fun _ _ _ h => h) (Or.inl ⟨by rfl, ?_⟩) (by assumption) ?_
              · intro w hSw; (try dsimp only at hSw); go_simp
              simp only [Act.put, List.setIfInBounds_toArray, List.set_cons_zero, List.set_cons_succ]
              refine wpAnyH_take (i := 31) (oi := ⟨some 99, _, _, _, _, _⟩) (v := .bool false) rfl (by kernel_rfl) (by kernel_rfl) (by kernel_rfl) (fun _ _ _ h => h) (Or.inl ⟨by rfl, ?_⟩) (by assumption) ?_
              · intro w hSw; (try dsimp only at hSw); go_simp
              simp only [Act.put, List.setIfInBounds_toArray, List.set_cons_zero, List.set_cons_succ]
              refine wpAnyH_take (i := 32) (oi := ⟨some 100, _, _, _, _, _⟩) (v := undef) rfl (by kernel_rfl) (by kernel_rfl) (by kernel_rfl) (fun _ _ _ h => h) (Or.inr ⟨by rfl, rfl⟩) (by assumption) ?_
              simp only [Act.put, List.setIfInBounds_toArray, List.set_cons_zero, List.set_cons_succ]
              refine wpAnyH_take (i := 33) (oi := ⟨some 101, _, _, _, _, _⟩) (v := undef) rfl (by kernel_rfl) (by kernel_rfl) (by kernel_rfl) (fun _ _ _ h => h) (Or.inr ⟨by rfl, rfl⟩) (by assumption) ?_
              simp only [Act.put, List.setIfInBounds_toArray, List.set_cons_zero, List.set_cons_succ]
              refine wpAnyH_take (i := 34) (oi := ⟨some 102, _, _, _, _, _⟩) (v := undef) rfl (by kernel_rfl) (by kernel_rfl) (by kernel_rfl) (fun _ _ _ h => h) (Or.inr ⟨by rfl, rfl⟩) (by assumption) ?_
              simp only [Act.put, List.setIfInBounds_toArray, List.set_cons_zero, List.set_cons_succ]
              refine wpAnyH_take (i := 35) (oi := ⟨some 103, _, _, _, _, _⟩) (v := .bool false) rfl (by kernel_rfl) (by kernel_rfl) (by kernel_rfl) (fun _ _ _ h => h) (Or.inl ⟨by rfl, ?_⟩) (by assumption) ?_
              · intro w hSw; (try dsimp only at hSw); go_simp
              simp only [Act.put, List.setIfInBounds_toArray, List.set_cons_zero, List.set_cons_succ]
              refine wpAnyH_take (i := 36) (oi := ⟨some 104, _, _, _, _, _⟩) (v := .bool false) rfl (by kernel_rfl) (by kernel_rfl) (by kernel_rfl) (fun _ _ _ h => h) (Or.inl ⟨by rfl, ?_⟩) (by assumption) ?_
              · intro w hSw; (try dsimp only at hSw); go_simp
              simp only [Act.put, List.setIfInBounds_toArray, List.set_cons_zero, List.set_cons_succ]
              refine wpAnyH_take (i := 37) (oi := ⟨some 105, _, _, _, _, _⟩) (v := .bool false) rfl (by kernel_rfl) (by kernel_rfl) (by kernel_rfl) (fun _ _ _ h => h) (Or.inl ⟨by rfl, ?_⟩) (by assumption) ?_
              · intro w hSw; (try dsimp only at hSw); go_simp
              simp only [Act.put, List.setIfInBounds_toArray, List.set_cons_zero, List.set_cons_succ]
              refine wpAnyH_take (i := 38) (oi := ⟨some 106, _, _, _, _, _⟩) (v := .pointer (some ⟨x4.heap.size, 0, none⟩)) rfl (by kernel_rfl) (by kernel_rfl) (by kernel_rfl) (fun _ _ _ h => h) (Or.inl ⟨by rfl, ?_⟩) (by assumption) ?_
              · intro w hSw; (try dsimp only at hSw); go_simp
              simp only [Act.put, List.setIfInBounds_toArray, List.set_cons_zero, List.set_cons_succ]
              refine wpAnyH_take (i := 39) (oi := ⟨some 107, _, _, _, _, _⟩) (v := .int .i64 (q : Int)) rfl (by kernel_rfl) (by kernel_rfl) (by kernel_rfl) (fun _ _ _ h => h) (Or.inl ⟨by rfl, ?_⟩) (by assumption) ?_
              · intro w hSw; (try dsimp only at hSw); go_simp
              simp only [Act.put, List.setIfInBounds_toArray, List.set_cons_zero, List.set_cons_succ]
              refine wpAnyH_take (i := 40) (oi := ⟨some 108, _, _, _, _, _⟩) (v := .string key) rfl (by kernel_rfl) (by kernel_rfl) (by kernel_rfl) (fun _ _ _ h => h) (Or.inl ⟨by rfl, ?_⟩) (by assumption) ?_
              · intro w hSw; (try dsimp only at hSw); go_simp
              simp only [Act.put, List.setIfInBounds_toArray, List.set_cons_zero, List.set_cons_succ]
              refine wpAnyH_take (i := 41) (oi := ⟨some 109, _, _, _, _, _⟩) (v := .slice A3 n3 c3) rfl (by kernel_rfl) (by kernel_rfl) (by kernel_rfl) (fun _ _ _ h => h) (Or.inl ⟨by rfl, ?_⟩) (by assumption) ?_
              · intro w hSw; (try dsimp only at hSw); go_simp
              simp only [Act.put, List.setIfInBounds_toArray, List.set_cons_zero, List.set_cons_succ]
              refine wpAnyH_take (i := 42) (oi := ⟨some 110, _, _, _, _, _⟩) (v := .slice A1 n1 c1) rfl (by kernel_rfl) (by kernel_rfl) (by kernel_rfl) (fun _ _ _ h => h) (Or.inl ⟨by rfl, ?_⟩) (by assumption) ?_
              · intro w hSw; (try dsimp only at hSw); go_simp
              simp only [Act.put, List.setIfInBounds_toArray, List.set_cons_zero, List.set_cons_succ]
              refine wpAnyH_take (i := 43) (oi := ⟨some 111, _, _, _, _, _⟩) (v := .agg #[.int .i64 4, .string key, .string ⟨#[]⟩, .slice A3 n3 c3, .slice A1 n1 c1, .int .i64 0, .slice none 0 0, .slice none 0 0, .slice none 0 0, .int .i64 0, .int .i64 0, .int .i64 0]) rfl (by kernel_rfl) (by kernel_rfl) (by kernel_rfl) (fun _ _ _ h => h) (Or.inl ⟨by rfl, ?_⟩) (by assumption) ?_
              · intro w hSw; (try dsimp only at hSw); go_simp
              simp only [Act.put, List.setIfInBounds_toArray, List.set_cons_zero, List.set_cons_succ]
              refine wpAnyH_ready (rs := [44]) (by kernel_rfl) (by simp) (AllReadyH.cons (o := ⟨some 112, _, _, _, _, _⟩) rfl (fun K hK => ?_) AllReadyH.nil)
              go_simp
              refine (CHK.out _ (Hz2.out)).mono ?_
              rintro e z3 ⟨rfl, hz3⟩
              have Hz3 : Hid (Below y4.heap.size y4 z3) := Lib.hid ((Hz2.out).trans (hz3.mono (Hz2.out).size))
              clear hz3
              refine hK.out _ _ (L.out z3 Hz3.out) (fun _ => ?_)
              clear hK K
              refine wpAnyH_take (i := 45) (oi := ⟨some 113, _, _, _, _, _⟩) (v := .bool true) rfl (by kernel_rfl) (by kernel_rfl) (by kernel_rfl) (fun _ _ _ h => h) (Or.inl ⟨by rfl, ?_⟩) (by assumption) ?_
              · intro w hSw; (try dsimp only at hSw); go_simp
              simp only [Act.put, List.setIfInBounds_toArray, List.set_cons_zero, List.set_cons_succ]
              refine wpAnyH_take (i := 46) (oi := ⟨some 114, _, _, _, _, _⟩) (v := .bool true) rfl (by kernel_rfl) (by kernel_rfl) (by kernel_rfl) (fun _ _ _ h => h) (Or.inl ⟨by rfl, ?_⟩) (by assumption) ?_
              · intro w hSw; (try dsimp only at hSw); go_simp
              simp only [Act.put, List.setIfInBounds_toArray, List.set_cons_zero, List.set_cons_succ]
              refine wpAnyH_take (i := 47) (oi := ⟨some 115, _, _, _, _, _⟩) (v := .pointer (some ⟨x4.heap.size, 0, none⟩)) rfl (by kernel_rfl) (by kernel_rfl) (by kernel_rfl) (fun _ _ _ h => h) (Or.inl ⟨by rfl, ?_⟩) (by assumption) ?_
              · intro w hSw; (try dsimp only at hSw); go_simp
              simp only [Act.put, List.setIfInBounds_toArray, List.set_cons_zero, List.set_cons_succ]
              refine wpAnyH_take (i := 48) (oi := ⟨some 116, _, _, _, _, _⟩) (v := .int .i64 (q : Int)) rfl (by kernel_rfl) (by kernel_rfl) (by kernel_rfl) (fun _ _ _ h => h) (Or.inl ⟨by rfl, ?_⟩) (by assumption) ?_
              · intro w hSw; (try dsimp only at hSw); go_simp
              simp only [Act.put, List.setIfInBounds_toArray, List.set_cons_zero, List.set_cons_succ]
              refine wpAnyH_take (i := 49) (oi := ⟨some 117, _, _, _, _, _⟩) (v := .bool true) rfl (by kernel_rfl) (by kernel_rfl) (by kernel_rfl) (fun _ _ _ h => h) (Or.inl ⟨by rfl, ?_⟩) (by assumption) ?_
              · intro w hSw; (try dsimp only at hSw); go_simp
              simp only [Act.put, List.setIfInBounds_toArray, List.set_cons_zero, List.set_cons_succ]
              refine wpAnyH_take (i := 50) (oi := ⟨some 118, _, _, _, _, _⟩) (v := .bool true) rfl (by kernel_rfl) (by kernel_rfl) (by kernel_rfl) (fun _ _ _ h => h) (Or.inl ⟨by rfl, ?_⟩) (by assumption) ?_
              · intro w hSw; (try dsimp only at hSw); go_simp
              simp only [Act.put, List.setIfInBounds_toArray, List.set_cons_zero, List.set_cons_succ]
              refine wpAnyH_take (i := 51) (oi := ⟨some 119, _, _, _, _, _⟩) (v := .bool true) rfl (by kernel_rfl) (by kernel_rfl) (by kernel_rfl) (fun _ _ _ h => h) (Or.inl ⟨by rfl, ?_⟩) (by assumption) ?_
              · intro w hSw; (try dsimp only at hSw); go_simp
              simp only [Act.put, List.setIfInBounds_toArray, List.set_cons_zero, List.set_cons_succ]
              refine wpAnyH_take (i := 52) (oi := ⟨some 120, _, _, _, _, _⟩) (v := .bool true) rfl (by kernel_rfl) (by kernel_rfl) (by kernel_rfl) (fun _ _ _ h => h) (Or.inl ⟨by rfl, ?_⟩) (by assumption) ?_
              · intro w hSw; (try dsimp only at hSw); go_simp
              simp only [Act.put, List.setIfInBounds_toArray, List.set_cons_zero, List.set_cons_succ]
              refine wpAnyH_take (i := 53) (oi := ⟨some 10, _, _, _, _, _⟩) (v := .bool true) rfl (by kernel_rfl) (by kernel_rfl) (by kernel_rfl) (fun _ _ _ h => h) (Or.inl ⟨by rfl, ?_⟩) (by assumption) ?_
              · intro w hSw; (try dsimp only at hSw); go_simp
              simp only [Act.put, List.setIfInBounds_toArray, List.set_cons_zero, List.set_cons_succ]
              refine wpAnyH_done (by kernel_rfl) ?_ _
              go_wp2
              go_ret
              exact ⟨rfl, HSx.out _ Hz3.out⟩

namespace lawPlainCas
open Go.ChangeShapes Go.WideShapes Go.ChangeAt

theorem own : ownKnob Tryz.prog.godebug = none := by kernel_rfl
theorem kids : Kids Tryz.prog (· < Tryz.prog.types.size) := kids_rows (by kernel_rfl) (by kernel_rfl)
theorem full : ∀ t e, t < Tryz.prog.types.size → Tryz.prog.underlying t = some (.slice e) → 0 < Tryz.prog.cellsOf e := slices_full_of Tryz.prog (by kernel_rfl)

set_option maxRecDepth 100000 in
theorem lifted (os : Os) (started : os.Started) (H : Type) (enc : TypeId × Value → H) :
    ReturnsInHanded {} Tryz.checked os 6 .any (Rows.plainCasSpec.pre6 enc Tryz.prog Tryz.f6 Rows.plainCasRow.domain false) (Rows.plainCasSpec.post enc Tryz.prog Tryz.f6 false true false false) := by
  refine returnsInHanded_of_change (C := Tryz.checked) own started (by kernel_rfl) Tryz.func6
    (ChangeSpec.witness6 (enc := enc) (C := Tryz.checked) false ⟨#[], #[.slice none 0 0, .string ⟨#[]⟩, .slice none 0 0, .slice none 0 0, .slice none 0 0], []⟩ 8 (by kernel_rfl) (by kernel_rfl) (by kernel_rfl) (by kernel_rfl)) ?_
  intro W base args ds gs before hval0 hW _ _
  have hval : ∀ (j : Nat) t v, Tryz.f6.params[j]? = some t → args[j]? = some v → Value.okWide Tryz.prog W .any base t v := hval0
  have hW' := hW
  obtain ⟨p, q, hA0, hV, rfl, _, _⟩ := hW
  obtain ⟨rfl, rfl⟩ := trodVars_none hV
  have hA : DataW.TrodAll enc Tryz.prog W 0 (fun _ => true) true Tryz.f6.params.toList args.toList ds p := hA0
  rw [Tryz.params6] at hA hval
  obtain ⟨v0, vs0, d0, ds0, p0, q0, hargs, rfl, rfl, h0, r0⟩ := trodAll_cons hA
  obtain ⟨v1, vs1, d1, ds1, p1, q1, rfl, rfl, rfl, h1, r1⟩ := trodAll_cons r0
  obtain ⟨v2, vs2, d2, ds2, p2, q2, rfl, rfl, rfl, h2, r2⟩ := trodAll_cons r1
  obtain ⟨v3, vs3, d3, ds3, p3, q3, rfl, rfl, rfl, h3, r3⟩ := trodAll_cons r2
  obtain ⟨v4, vs4, d4, ds4, p4, q4, rfl, rfl, rfl, h4, r4⟩ := trodAll_cons r3
  obtain ⟨rfl, rfl, rfl⟩ := trodAll_nil r4
  obtain rfl : args = #[v0, v1, v2, v3, v4] := by cases args; simp_all
  have hlt := hW'.lt
  obtain ⟨L0, ho0, hsh0, hlen0⟩ := open_ops (hval 0 22 v0 rfl rfl) h0 (fun x hx => hlt x (by simp [hx]))
  obtain ⟨s1, rfl, _, _, ws1⟩ := Go.ChangeMaps.open_string Tryz.underlying9 (hval 1 9 v1 rfl rfl) h1
  obtain ⟨A2, n2, c2, l2, rfl, hb2, hw2⟩ := open_isvals Tryz.underlying32 Tryz.underlying67 (by kernel_rfl) ⟨rfl, rfl, rfl⟩ ⟨by kernel_rfl, by kernel_rfl, by kernel_rfl⟩ ⟨by kernel_rfl, by kernel_rfl, by kernel_rfl⟩ (hval 2 32 v2 rfl rfl) h2 (fun x hx => hlt x (by simp [hx]))
  obtain ⟨A3, n3, c3, l3, rfl, hb3, hw3⟩ := open_isvals Tryz.underlying32 Tryz.underlying67 (by kernel_rfl) ⟨rfl, rfl, rfl⟩ ⟨by kernel_rfl, by kernel_rfl, by kernel_rfl⟩ ⟨by kernel_rfl, by kernel_rfl, by kernel_rfl⟩ (hval 3 32 v3 rfl rfl) h3 (fun x hx => hlt x (by simp [hx]))
  obtain ⟨A4, n4, c4, l4, rfl, hb4, hw4⟩ := open_isvals Tryz.underlying32 Tryz.underlying67 (by kernel_rfl) ⟨rfl, rfl, rfl⟩ ⟨by kernel_rfl, by kernel_rfl, by kernel_rfl⟩ ⟨by kernel_rfl, by kernel_rfl, by kernel_rfl⟩ (hval 4 32 v4 rfl rfl) h4 (fun x hx => hlt x (by simp [hx]))
  refine (plainCas_walk v0 L0 s1 A2 A3 A4 n2 c2 n3 c3 n4 c4 l2 l3 l4 W ho0 hsh0 hb2 hb3 hb4 hw2 hw3 hw4 ws1).mono fun e W' ⟨he, hbel⟩ => ?_
  subst he
  exact ⟨_, rfl, law_post kids full (of_decide_eq_true (by kernel_rfl)) Tryz.underlying4 rfl rfl rfl hW' hbel⟩

theorem proved : Rows.PlainCasSaid :=
  OpenClaim.holds_of_wide 6 Tryz.f6 rfl rfl rfl rfl rfl rfl rfl ⟨rfl, rfl, rfl, rfl, rfl⟩ rfl rfl rfl rfl rfl (by kernel_rfl) Tryz.func6 (by kernel_rfl)
    (of_decide_eq_true (by kernel_rfl)) (by unfold Func.isWrapper; first | (rw [if_pos (by decide +kernel)]; kernel_rfl) | (rw [if_neg (by decide +kernel)]; exact ⟨rfl, rfl⟩))
    (fun os started H enc _ => lifted os started H enc)
end lawPlainCas

end Go.Proofs.YtheojndkojagdaaGreat

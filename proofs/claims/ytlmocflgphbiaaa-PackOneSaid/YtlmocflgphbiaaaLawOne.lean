/- The law PackOne: for every input it returns true and leaves what it was given. No condition. -/
import Derived.Test.YtlmocflgphbiaaaWalkF
import Derived.Test.YtlmocflgphbiaaaWalkI
import Derived.Test.YtlmocflgphbiaaaSpecBack
import Derived.Test.YtlmocflgphbiaaaOpen
import Derived.Deep.RegionWith
import Derived.Deep.RegionHeld3
import Derived.Deep.DeepCutAuto
namespace Go.Proofs.Ytlmocflgphbiaaa
open Go.RowKit
open Go.Lib (strCells)

def asTexts (L : List (List UInt8)) : List ByteArray := L.map fun s => ⟨s.toArray⟩
theorem asTexts_vals (L : List (List UInt8)) : (asTexts L).map Value.string = strVals L := by simp [asTexts, strVals]
theorem raw_asTexts (L : List (List UInt8)) : raw (asTexts L) = L := by
  unfold raw asTexts
  rw [List.map_map]
  conv => rhs; rw [← List.map_id L]
  exact List.map_congr_left fun s _ => by simp
theorem textsBody_ge (L : List (List UInt8)) : L.length ≤ (textsBody L).length := by
  induction L with
  | nil => simp
  | cons s L ih =>
    have := numForm_pos s.length
    rw [textsBody, List.length_append, textForm, List.length_append]
    simp only [List.length_cons]
    omega

set_option maxHeartbeats 1600000 in
set_option maxRecDepth 100000 in
theorem packOne_walk (A : Option Addr) (n c C : Nat) (p : Int) (l : List UInt8) (w : World) (h : HasBytes w C A n l) (hC : C ≤ w.heap.size) (hn : n ≤ maxLen) (hnc : n ≤ c) :
    Calls Try.prog 7 #[.slice A n c, .int .i64 p] w fun e w' => e = .returned (.bool true) ∧ Below w.heap.size w w' := by
  have hn' := hn
  unfold maxLen at hn'
  by_cases hbig : 3000 < n
  · go_enter Try.func7, Try.ntmps7
    go_wp2_with fail
    refine (awake_any _).mono ?_
    rintro e w1 ⟨rfl, hb1⟩
    go_wp2_with fail
    go_ret
    exact ⟨rfl, hb1⟩
  · obtain ⟨r, hr⟩ : ∃ r, getNum l p = r := ⟨_, rfl⟩
    obtain ⟨x, u, e⟩ := r
    by_cases he : e = 0
    · subst he
      have hbd := getNum_bound (l := l) (p := p) (by rw [hr])
      have hone := getNum_one (l := l) (p := p) (by rw [hr])
      rw [hr] at hbd hone
      simp only [h.len] at hbd hone
      obtain ⟨q, rfl⟩ : ∃ q : Nat, p = q := ⟨p.toNat, by omega⟩
      rw [Int.toNat_natCast] at hone
      have Hone := Lib.hid hone
      have Hr := Lib.hid hr
      clear hone hr
      have hq0 : (0 : Int) ≤ (q : Int) := by omega
      have hqu : (q : Int) ≤ (u : Int) := by omega
      have huc : (u : Int) ≤ (c : Int) := by omega
      have hlo : decide (u < q) = false := by simp; omega
      have hhi : decide (n < u) = false := by simp; omega
      go_enter Try.func7, Try.ntmps7
      go_wp2_with fail
      refine (awake_any _).mono ?_
      rintro e w1 ⟨rfl, hb1⟩
      have h1 := h.belowOf hb1 hC
      have hC1 := Nat.le_trans hC hb1.size
      go_wp2_with fail
      refine (getNum_any A n c C q l _ h1 hn hnc).mono ?_
      rintro e w2 ⟨rfl, rfl⟩
      rw [Hr.out]
      have H1 := Lib.hid h1
      have H0 := Lib.hid h
      clear h1 h
      have Hnum : Hid (∀ W, Calls Try.prog 16 #[.int .i64 (x : Int)] W (Gives W.heap.size (numForm x).length (byteCells (numForm x)) W)) := Lib.hid fun W => by
        have := num_any x W (by omega)
        rw [if_neg (by omega), Int.toNat_natCast] at this
        exact this
      have hcut : HasBytes w1 C (if c = q then A else A.map (·.add q)) (n - q) (l.drop q) := HasBytes.part H1.out (by omega) hnc
      obtain ⟨A', hA⟩ : ∃ A', (if c = q then A else A.map (·.add q)) = A' := ⟨_, rfl⟩
      rw [hA] at hcut
      have Hcut : Hid (HasBytes w1 C A' (u - q) (numForm x)) := Lib.hid (by rw [Hone.out]; exact HasBytes.head hcut (by omega))
      clear hcut
      have Hb1 := Lib.hid hb1
      have hsz1 := hb1.size
      clear hb1
      go_upto_region 6 with fail
      go_cut [44] (fun t wx => t = .bool false ∧ Below w.heap.size w wx)
      case first =>
        go_region_held3 (fun _ => True) (trivial)
          (first
            | (go_at_call 16; refine (Hnum.out _).mono ?_; rintro e w3 ⟨v3, rfl, hown3, hb3⟩; obtain ⟨A3, c3, rfl, hc3, hm3, hh3⟩ := own_slice hown3; have Hh3 := Lib.hid hh3; have Hb3 : Hid (Below w1.heap.size w1 w3) := Lib.hid (((Below.refl _ w1).drew).trans hb3); clear hc3 hm3 hh3 hb3 hown3)
            | (go_at_call 15; refine (same_true A3 A' _ _ c3 _ _ C _ _ Hh3.out ?_).mono ?_; exact Hcut.out.belowOf Hb3.out hC1; rintro e w4 ⟨rfl, rfl⟩))
        all_goals (go_wp2_with fail; go_meet; exact ⟨rfl, Hb1.out.trans (Hb3.out.mono hsz1)⟩)
      case rest =>
        obtain ⟨rfl, hbx⟩ := hcut
        have Hbx := Lib.hid hbx
        have H2 := Lib.hid (Has.belowOf H0.out hbx hC)
        have hC2 := Nat.le_trans hC hbx.size
        have hszx := hbx.size
        clear hbx
        obtain ⟨g, hg⟩ : ∃ g, getTexts l q 3000 3000 = g := ⟨_, rfl⟩
        obtain ⟨L, t, f⟩ := g
        have hcall := getTexts_any A n c C q 3000 3000 l _ H2.out hC2 (by omega) hnc
        rw [hg] at hcall
        have Hcall := Lib.hid hcall
        clear hcall
        by_cases hf : f = 0
        · subst hf
          have hb2 := getTexts_one (l := l) (p := q) (count := 3000) (most := 3000) (by rw [hg])
          rw [hg] at hb2
          simp only [H0.out.len] at hb2
          obtain ⟨_, hb3, hb4, hb5⟩ := hb2
          rw [Int.toNat_natCast] at hb5
          have Htl : Hid ((textsForm L).length ≤ 3000) := Lib.hid (by rw [hb5, List.length_take, List.length_drop, H0.out.len]; omega)
          have Hb5 := Lib.hid hb5
          clear hb5 hg
          have hqt : (q : Int) ≤ (t : Int) := by omega
          have htc : (t : Int) ≤ (c : Int) := by omega
          have hlo2 : decide (t < q) = false := by simp; omega
          have hhi2 : decide (n < t) = false := by simp; omega
          go_wp2_with fail
          refine Hcall.out.mono ?_
          rintro e w4 ⟨v4, rfl, hown4, hbel4⟩
          obtain ⟨A4, c4, rfl, hc4, hm4, hh4⟩ := own_slice hown4
          have H4 := Lib.hid (H2.out.belowOf hbel4 hC2)
          have Hb4 := Lib.hid (Hbx.out.trans (hbel4.mono hszx))
          have hsz4 := Hb4.out.size
          have hC4 := Nat.le_trans hC2 hbel4.size
          have Hh4 := Lib.hid hh4
          clear hbel4 hown4 hc4 hm4 hh4
          have Htx : Hid (∀ W, Has W W.heap.size A4 L.length (strVals L) → Calls Try.prog 18 #[.slice A4 L.length c4] W (Gives W.heap.size (textsForm L).length (byteCells (textsForm L)) W)) := Lib.hid fun W hW => by
            have hs := asTexts_vals L
            have := texts_any A4 L.length c4 W.heap.size (asTexts L) W (by rw [HasTexts, hs]; exact hW) (Nat.le_refl _)
              (by rw [raw_asTexts]; have := Htl.out; rw [textsForm, List.length_append] at this; omega) (by have := Htl.out; rw [textsForm, List.length_append] at this; have := textsBody_ge L; omega)
            rw [raw_asTexts] at this
            exact this
          have hcut : HasBytes w4 C (if c = q then A else A.map (·.add q)) (n - q) (l.drop q) := HasBytes.part H4.out (by omega) hnc
          rw [hA] at hcut
          have Hcut2 : Hid (HasBytes w4 C A' (t - q) (textsForm L)) := Lib.hid (by rw [Hb5.out]; exact HasBytes.head hcut (by omega))
          clear hcut
          go_upto_region 9 with fail
          go_cut [74] (fun t wx => t = .bool false ∧ Below w.heap.size w wx)
          case first =>
            go_region_held3 (fun _ => True) (trivial)
              (first
                | (go_at_call 18; refine (Htx.out _ ?_).mono ?_; exact Hh4.out; rintro e w5 ⟨v5, rfl, hown5, hb5⟩; obtain ⟨A5, c5, rfl, hc5, hm5, hh5⟩ := own_slice hown5; have Hh5 := Lib.hid hh5; have Hb5' : Hid (Below w4.heap.size w4 w5) := Lib.hid (((Below.refl _ w4).drew).trans hb5); clear hc5 hm5 hh5 hb5 hown5)
                | (go_at_call 15; refine (same_true A5 A' _ _ c5 _ _ C _ _ Hh5.out ?_).mono ?_; exact Hcut2.out.belowOf Hb5'.out hC4; rintro e w6 ⟨rfl, rfl⟩))
            all_goals (go_wp2_with fail; go_meet; exact ⟨rfl, Hb4.out.trans (Hb5'.out.mono hsz4)⟩)
          case rest =>
            obtain ⟨rfl, hbz⟩ := hcut
            have Hbz := Lib.hid hbz
            clear hbz
            go_wp2
            go_ret
            exact ⟨rfl, Hbz.out⟩
        · have hgt : 0 < f := by omega
          have hfi : ((f : Int) == 0) = false := by simp; omega
          clear hg
          go_wp2_with fail
          refine Hcall.out.mono ?_
          rintro e w4 ⟨v4, rfl, hown4, hbel4⟩
          have Hb4 := Lib.hid (Hbx.out.trans (hbel4.mono hszx))
          clear hown4 hbel4
          go_wp2_with fail
          go_quiet (fail)
          go_wp2
          go_ret
          exact ⟨rfl, below_drews Hb4.out _⟩
    · obtain ⟨g, hg⟩ : ∃ g, getTexts l p 3000 3000 = g := ⟨_, rfl⟩
      obtain ⟨L, t, f⟩ := g
      have hf : f ≠ 0 := fun h0 => by
        have := getTexts_num (l := l) (p := p) (count := 3000) (most := 3000) (by rw [hg]; exact h0)
        rw [hr] at this
        exact he this
      have hei : ((e : Int) == 0) = false := by simp; omega
      have hfi : ((f : Int) == 0) = false := by simp; omega
      have hgt : 0 < f := by omega
      have hegt : 0 < e := by omega
      have H0 := Lib.hid h
      have Hr := Lib.hid hr
      have Hg := Lib.hid hg
      clear hr hg h hf he
      go_enter Try.func7, Try.ntmps7
      go_wp2_with fail
      refine (awake_any _).mono ?_
      rintro e1 w1 ⟨rfl, hb1⟩
      have H1 := Lib.hid (H0.out.belowOf hb1 hC)
      have hC1 := Nat.le_trans hC hb1.size
      have Hb1 := Lib.hid hb1
      have hsz1 := hb1.size
      clear hb1
      go_wp2_with fail
      refine (getNum_any A n c C p l _ H1.out hn hnc).mono ?_
      rintro e2 w2 ⟨rfl, rfl⟩
      rw [Hr.out]
      go_wp2_with fail
      go_quiet (fail)
      go_wp2_with fail
      refine (getTexts_any A n c C p 3000 3000 l _ ?_ ?_ (by omega) hnc).mono ?_
      · exact H1.out
      · exact hC1
      rw [Hg.out]
      rintro e4 w4 ⟨v4, rfl, hown4, hbel4⟩
      have Hb4 : Hid (Below w.heap.size w w4) := Lib.hid ((below_drews Hb1.out _).trans (hbel4.mono hsz1))
      clear hown4 hbel4
      go_wp2_with fail
      go_quiet (fail)
      go_wp2
      go_ret
      have hne : ((f : Int) != 0) = true := by simp; omega
      exact ⟨congrArg (fun b => Ending.returned (.bool b)) hne, below_drews Hb4.out _⟩

namespace lawOne
open Go.ChangeShapes Go.WideShapes Go.ChangeAt

theorem own : ownKnob Try.prog.godebug = none := by kernel_rfl
theorem kids : Kids Try.prog (· < Try.prog.types.size) := kids_rows (by kernel_rfl) (by kernel_rfl)
theorem full : ∀ t e, t < Try.prog.types.size → Try.prog.underlying t = some (.slice e) → 0 < Try.prog.cellsOf e := slices_full_of Try.prog (by kernel_rfl)

set_option maxRecDepth 100000 in
theorem lifted (os : Os) (started : os.Started) (H : Type) (enc : TypeId × Value → H) :
    ReturnsInHanded {} Try.checked os 7 .any (Rows.packOneSpec.pre6 enc Try.prog Try.f7 Rows.packOneRow.domain false) (Rows.packOneSpec.post enc Try.prog Try.f7 false true false false) := by
  refine returnsInHanded_of_change (C := Try.checked) own started (by kernel_rfl) Try.func7
    (ChangeSpec.witness6 (enc := enc) (C := Try.checked) false ⟨#[], #[.slice none 0 0, .int .i64 0], []⟩ 8 (by kernel_rfl) (by kernel_rfl) (by kernel_rfl) (by kernel_rfl)) ?_
  intro W base args ds gs before hval0 hW _ _
  have hval : ∀ (j : Nat) t v, Try.f7.params[j]? = some t → args[j]? = some v → Value.okWide Try.prog W .any base t v := hval0
  have hW' := hW
  obtain ⟨p, q, hA0, hV, rfl, _, _⟩ := hW
  obtain ⟨rfl, rfl⟩ := trodVars_none hV
  have hA : DataW.TrodAll enc Try.prog W 0 (fun _ => true) true Try.f7.params.toList args.toList ds p := hA0
  rw [Try.params7] at hA hval
  obtain ⟨v0, vs0, d0, ds0, p0, q0, hargs, rfl, rfl, h0, r0⟩ := trodAll_cons hA
  obtain ⟨v1, vs1, d1, ds1, p1, q1, rfl, rfl, rfl, h1, r1⟩ := trodAll_cons r0
  obtain ⟨rfl, rfl, rfl⟩ := trodAll_nil r1
  obtain rfl : args = #[v0, v1] := by cases args; simp_all
  have hlt := hW'.lt
  obtain ⟨A0, n0, c0, l0, rfl, hn0, hnc0, hb0⟩ := open_bytes Try.underlying25 Try.underlying5 (by kernel_rfl) (hval 0 25 v0 rfl rfl) h0 (fun x hx => hlt x (by simp [hx]))
  obtain ⟨k1, rfl, _, _, bd1⟩ := open_int Try.underlying3 (hval 1 3 v1 rfl rfl) h1
  refine (packOne_walk A0 n0 c0 W.heap.size k1 l0 W hb0 (Nat.le_refl _) hn0 hnc0).mono fun e W' ⟨he, hbel⟩ => ?_
  subst he
  exact ⟨_, rfl, law_post kids full (of_decide_eq_true (by kernel_rfl)) Try.underlying4 rfl rfl rfl hW' hbel⟩

theorem proved : Rows.PackOneSaid :=
  OpenClaim.holds_of_wide 7 Try.f7 rfl rfl rfl rfl rfl rfl rfl ⟨rfl, rfl, rfl, rfl, rfl⟩ rfl rfl rfl rfl rfl (by kernel_rfl) Try.func7 (by kernel_rfl)
    (of_decide_eq_true (by kernel_rfl)) (by unfold Func.isWrapper; first | (rw [if_pos (by decide +kernel)]; kernel_rfl) | (rw [if_neg (by decide +kernel)]; exact ⟨rfl, rfl⟩))
    (fun os started H enc _ => lifted os started H enc)
end lawOne

end Go.Proofs.Ytlmocflgphbiaaa

/- once.form gives the form of a right reply. Condition: the reply is in memory. -/
import Derived.Test.YtdfhnjocpfjagaaMTupV
import Derived.Test.YtdfhnjocpfjagaaMSvSp
import Derived.Test.YtdfhnjocpfjagaaMSvPk
import Derived.Test.YtdfhnjocpfjagaaOnE
import Derived.Deep.RegionHeld3
namespace Go.Proofs.Ytdfhnjocpfjagaa
open Go.RowKit
open Go.Lib (strCells compareBytes)

theorem toList_nil (z : List UInt8) (c : UInt8) : ((⟨(c :: z).toArray⟩ : ByteArray).toList == (⟨#[]⟩ : ByteArray).toList) = false := by
  rw [eq_toList]
  exact decide_eq_false (by simp)
/-- what Vals leaves -/
def ValsPt (t : List UInt8) (w : World) (e : Ending) (w' : World) : Prop :=
  ∃ (v : Value) (z : Nat), e = .returned (.tuple #[v, .int .i64 (z : Int)]) ∧ z < 10 ∧ w'.ownsRow w.heap.size 47 3 v (unpT t).length (valCells (unpT t)) ∧ Below w.heap.size w w' ∧ (z ≠ 0 → unpT t = [])
set_option maxRecDepth 100000 in
theorem vals_any (s : ByteArray) (w : World) (hs : s.size ≤ 100000) : Calls Try.prog 67 #[.string s] w (ValsPt s.data.toList w) := by
  have Hcall := Lib.hid (cut_any s w hs)
  cases hR : cutL 4 s.data.toList with
  | err c =>
    have Hc := Lib.hid (cutL_err 4 _ _ hR)
    rw [hR] at Hcall
    have HU : Hid (unpT s.data.toList = []) := Lib.hid (by unfold unpT; rw [hR])
    have hc0 : ((c : Int) != 0) = true := by have := Hc.out; simp; omega
    clear hR
    go_enter Try.func67, Try.ntmps67
    go_wp2_with fail
    refine Hcall.out.mono ?_
    rintro e w1 ⟨rfl, hb⟩
    have Hb := Lib.hid hb
    clear hb
    go_wp2
    go_ret2
    exact ⟨_, c, rfl, by have := Hc.out; omega, by rw [HU.out]; exact World.ownsRow_nil _ _ _ _, Hb.out, fun _ => HU.out⟩
  | ok m z =>
    rw [hR] at Hcall
    cases z with
    | nil =>
      have HU : Hid (unpT s.data.toList = m) := Lib.hid (by unfold unpT; rw [hR])
      clear hR
      go_enter Try.func67, Try.ntmps67
      go_wp2_with fail
      refine Hcall.out.mono ?_
      rintro e w1 ⟨v, rfl, hown, hb⟩
      obtain ⟨A1, c1, rfl, _, _, _⟩ := own_sliceN hown
      have Hown := Lib.hid hown
      have Hb := Lib.hid hb
      clear hown hb
      go_wp2
      go_ret2
      exact ⟨_, 0, rfl, by omega, by rw [HU.out]; exact Hown.out, Hb.out, fun h => absurd rfl h⟩
    | cons c z =>
      have HU : Hid (unpT s.data.toList = []) := Lib.hid (by unfold unpT; rw [hR])
      have hne := toList_nil z c
      clear hR
      go_enter Try.func67, Try.ntmps67
      go_wp2_with fail
      refine Hcall.out.mono ?_
      rintro e w1 ⟨v, rfl, hown, hb⟩
      obtain ⟨A1, c1, rfl, _, _, _⟩ := own_sliceN hown
      have Hb := Lib.hid hb
      clear hown hb
      go_wp2
      go_ret2
      exact ⟨_, 3, rfl, by omega, by rw [HU.out]; exact World.ownsRow_nil _ _ _ _, Hb.out, fun _ => HU.out⟩
/-- what Unpack leaves: the values, or none -/
def UnpPt (t : List UInt8) (w : World) (e : Ending) (w' : World) : Prop :=
  ∃ (v : Value) (z : Int), e = .returned (.tuple #[v, .int .i64 z]) ∧ w'.ownsRow w.heap.size 47 3 v (unpT t).length (valCells (unpT t)) ∧ Below w.heap.size w w'
set_option maxRecDepth 100000 in
theorem unpack17_any (s : ByteArray) (w : World) (hs : s.size ≤ 100000) : Calls Try.prog 127 #[.string s] w (UnpPt s.data.toList w) := by
  have Hv := Lib.hid (vals_any s w hs)
  go_enter Try.func127, Try.ntmps127
  go_wp2_with fail
  refine Hv.out.mono ?_
  rintro e w1 ⟨v, z, rfl, hz10, hown, hb, hz⟩
  obtain ⟨A1, c1, rfl, -, -, -⟩ := own_sliceN hown
  obtain ⟨n, hn⟩ : ∃ n, (unpT s.data.toList).length = n := ⟨_, rfl⟩
  have Hn := Lib.hid hn
  rw [hn] at hown ⊢
  have Hown := Lib.hid hown
  have Hb := Lib.hid hb
  have Hz := Lib.hid hz
  clear hown hb hz hn
  by_cases hn0 : n = 0
  · subst hn0
    have HU : Hid (unpT s.data.toList = []) := Lib.hid (List.eq_nil_of_length_eq_zero Hn.out)
    obtain ⟨y, hy, hy0⟩ : ∃ y : Int, firstI [(z : Int), 3] = y ∧ (y != 0) = true := by
      refine ⟨_, rfl, ?_⟩
      by_cases h0 : z = 0
      · subst h0; decide
      · have : firstI [(z : Int), 3] = z := by simp [firstI]; omega
        rw [this]
        simpa using h0
    go_wp2_with fail
    refine (when_true _ _).mono ?_
    rintro e w2 ⟨rfl, rfl⟩
    go_wp2_with fail
    refine (first_lit _ _ _ [(z : Int), 3] 2 2 y rfl rfl (by omega) hy).mono ?_
    rintro e w2 ⟨rfl, rfl⟩
    have Hb2 := Lib.hid (Hb.out.alloc Hb.out.size (.cells #[.int .i64 (z : Int), .int .i64 3] 24))
    clear hy
    go_wp2
    go_ret2
    exact ⟨_, _, rfl, by rw [HU.out]; exact World.ownsRow_nil _ _ _ _, Hb2.out⟩
  · have hz0 : z = 0 := Decidable.byContradiction fun e => hn0 (by rw [← Hn.out, Hz.out e]; rfl)
    subst hz0
    have hb0 : ((n : Int) == 0) = false := by simp; omega
    clear hn0
    go_wp2_with fail
    refine (when_false _ _).mono ?_
    rintro e w2 ⟨rfl, rfl⟩
    go_wp2_with fail
    refine (first_lit _ _ _ [0, 0] 2 2 0 rfl rfl (by omega) (by simp [firstI])).mono ?_
    rintro e w2 ⟨rfl, rfl⟩
    have Hb2 := Lib.hid (And.intro (Hb.out.alloc Hb.out.size (.cells #[.int .i64 0, .int .i64 0] 24)) (own_belowN Hown.out (below_box (.cells #[.int .i64 0, .int .i64 0] 24))))
    go_wp2
    go_ret2
    exact ⟨_, _, rfl, by rw [Hn.out]; exact Hb2.out.2, Hb2.out.1⟩
end Go.Proofs.Ytdfhnjocpfjagaa

namespace Go.Proofs.Ytdfhnjocpfjagaa
open Go.RowKit
open Go.Lib (strCells)

theorem parts4 {w : World} {A3 A4 A5 A6 : Option Addr} {n3 n4 n5 n6 c3 c4 c5 c6 B3 B4 B5 B6 : Nat} {f3 f4 f5 f6 : List UInt8} (h3 : HasBytes w B3 A3 n3 f3) (h4 : HasBytes w B4 A4 n4 f4) (h5 : HasBytes w B5 A5 n5 f5) (h6 : HasBytes w B6 A6 n6 f6) (b3 : B3 ≤ w.heap.size) (b4 : B4 ≤ w.heap.size) (b5 : B5 ≤ w.heap.size) (b6 : B6 ≤ w.heap.size) :
    Parts (w.alloc (.cells #[.slice A3 n3 c3, .slice A4 n4 c4, .slice A5 n5 c5, .slice A6 n6 c6] 22)) (w.heap.size + 1) (some ⟨w.heap.size, 0, none⟩) 4 [.slice A3 n3 c3, .slice A4 n4 c4, .slice A5 n5 c5, .slice A6 n6 c6] [f3, f4, f5, f6] := by
  refine ⟨Has.lit w #[.slice A3 n3 c3, .slice A4 n4 c4, .slice A5 n5 c5, .slice A6 n6 c6] 22, rfl, fun k hk => ?_⟩
  have g3 : HasBytes (w.alloc (.cells #[.slice A3 n3 c3, .slice A4 n4 c4, .slice A5 n5 c5, .slice A6 n6 c6] 22)) (w.heap.size + 1) A3 n3 f3 := (Has.alloc h3 b3 _).more (by omega)
  have g4 : HasBytes (w.alloc (.cells #[.slice A3 n3 c3, .slice A4 n4 c4, .slice A5 n5 c5, .slice A6 n6 c6] 22)) (w.heap.size + 1) A4 n4 f4 := (Has.alloc h4 b4 _).more (by omega)
  have g5 : HasBytes (w.alloc (.cells #[.slice A3 n3 c3, .slice A4 n4 c4, .slice A5 n5 c5, .slice A6 n6 c6] 22)) (w.heap.size + 1) A5 n5 f5 := (Has.alloc h5 b5 _).more (by omega)
  have g6 : HasBytes (w.alloc (.cells #[.slice A3 n3 c3, .slice A4 n4 c4, .slice A5 n5 c5, .slice A6 n6 c6] 22)) (w.heap.size + 1) A6 n6 f6 := (Has.alloc h6 b6 _).more (by omega)
  match k, hk with
  | 0, _ => exact ⟨_, _, _, rfl, g3⟩
  | 1, _ => exact ⟨_, _, _, rfl, g4⟩
  | 2, _ => exact ⟨_, _, _, rfl, g5⟩
  | 3, _ => exact ⟨_, _, _, rfl, g6⟩
set_option maxRecDepth 100000 in
set_option maxHeartbeats 6400000 in
theorem form_any (r : Rp) (A : Option Addr) (n c B : Nat) (X : Option Addr) (m y : Nat) (w : World) (hv : HasVals w B A n r.rc) (hn : n ≤ maxLen) (hB : B ≤ w.heap.size) (hr : r.Right) (hi : ∀ v ∈ r.rc, InI64 v.n) :
    Calls Try.prog 103 #[.agg #[.int .i64 r.code, .bool r.there, .slice A n c, .slice X m y, .int .i64 r.id]] w (Gives w.heap.size (flat (formL r)).length (byteCells (flat (formL r))) w) := by
  obtain ⟨w1, hw1⟩ : ∃ w1, w.alloc (.cells #[.int .i64 r.code, .bool r.there, .slice A n c, .slice X m y, .int .i64 r.id] 82) = w1 := ⟨_, rfl⟩
  have bx1 : Box w1 w.heap.size 82 #[.int .i64 r.code, .bool r.there, .slice A n c, .slice X m y, .int .i64 r.id] := hw1 ▸ Box.made _ _ _
  have bw1 : Below w.heap.size w w1 := hw1 ▸ below_box _
  have HP := Lib.hid (pack_any A n c B r.rc w1 (hv.belowOf bw1 hB) hn (Nat.le_trans hB bw1.size) hi)
  have Hp := Lib.hid (pack_len r.rc)
  have Hcode := Lib.hid hr.1
  have Hid0 := Lib.hid hr.2.1
  have H1 := Lib.hid (And.intro bx1 bw1)
  have HF := Lib.hid (form_len hr)
  have HFL : Hid (flat (formL r) = flat [numForm r.code.toNat, numForm (yesN r.there), numForm r.id.toNat, textForm (packT r.rc)]) := Lib.hid rfl
  obtain ⟨F, hF⟩ : ∃ F, flat (formL r) = F := ⟨_, rfl⟩
  rw [hF] at HF HFL ⊢
  obtain ⟨code, there, rc, id⟩ := r
  simp only at HP Hp Hcode Hid0 HFL H1 hw1
  obtain ⟨T, hT⟩ : ∃ T, packT rc = T := ⟨_, rfl⟩
  obtain ⟨E, hE⟩ : ∃ E, (recErr rc : Int) = E := ⟨_, rfl⟩
  simp only [textErr] at HP
  rw [hT, hE] at HP
  rw [hT] at Hp HFL
  have p1 : w1.cell? ⟨w.heap.size, 1, none⟩ = some (.bool there) := H1.out.1.cell 1
  have p2 : w1.cell? ⟨w.heap.size, 2, none⟩ = some (.slice A n c) := H1.out.1.cell 2
  clear hv hr hi bx1 bw1 hF hT hE
  go_enter Try.func103, Try.ntmps103
  cases there
  all_goals
    go_wp2_with fail
    refine HP.out.mono ?_
    rintro e w2 ⟨rfl, b2⟩
    have b2' : Below w2.heap.size w2 w2.drew := (Below.refl _ _).drew
    have HD := Lib.hid (And.intro (((H1.out.1.below b2 H1.out.1.lt)).below b2' (H1.out.1.below b2 H1.out.1.lt).lt) ((H1.out.2.trans (b2.mono H1.out.2.size)).trans (b2'.mono (Nat.le_trans H1.out.2.size b2.size))))
    have HK : Hid (∀ wx, Below w2.drew.heap.size w2.drew wx → wx.cell? ⟨w.heap.size, 0, none⟩ = some (.int .i64 code) ∧ wx.cell? ⟨w.heap.size, 4, none⟩ = some (.int .i64 id)) := Lib.hid fun wx hx => ⟨(HD.out.1.below hx HD.out.1.lt).cell 0, (HD.out.1.below hx HD.out.1.lt).cell 4⟩
    have HT1 := Lib.hid (fun wx => text_any ⟨T.toArray⟩ wx (by have := Hp.out; simp [ByteArray.size]; omega))
    clear b2 b2' p1 p2
    go_wp2
    first
      | have HQ : Hid (flat [numForm code.toNat, numForm 0, numForm id.toNat, textForm T] = F) := Lib.hid HFL.out.symm
      | have HQ : Hid (flat [numForm code.toNat, numForm 1, numForm id.toNat, textForm T] = F) := Lib.hid HFL.out.symm
    go_region_held3 (fun wx => wx.cell? ⟨w.heap.size, 0, none⟩ = some (.int .i64 code) ∧ wx.cell? ⟨w.heap.size, 4, none⟩ = some (.int .i64 id))
      (first | exact HK.out _ (Below.refl _ _) | exact HK.out _ C7 | exact HK.out _ (C6.alloc C6.size _) | exact HK.out _ C6 | exact HK.out _ C5 | exact HK.out _ C4 | exact HK.out _ C3)
      (first
      | (go_at_call_of 19 (Value.int IntKind.i64 code); refine (num_any code _ (by have := Hcode.out; omega)).mono ?_; rintro e w3 ⟨v3, rfl, o3, b3⟩; rw [if_neg (by have := Hcode.out; omega)] at o3; obtain ⟨A3, m3, rfl, -, -, x3⟩ := own_slice o3; have C3 : Below w2.drew.heap.size w2.drew w3 := b3)
      | (go_at_call_of 19 (Value.int IntKind.i64 0); refine (num_any 0 _ (by omega)).mono ?_; rintro e w4 ⟨v4, rfl, o4, b4⟩; rw [if_neg (by omega), show Int.toNat 0 = 0 from rfl] at o4; obtain ⟨A4, m4, rfl, -, -, x4⟩ := own_slice o4; have C4 : Below w2.drew.heap.size w2.drew w4 := below_thn C3 b4 C3.size)
      | (go_at_call_of 19 (Value.int IntKind.i64 1); refine (num_any 1 _ (by omega)).mono ?_; rintro e w4 ⟨v4, rfl, o4, b4⟩; rw [if_neg (by omega), show Int.toNat 1 = 1 from rfl] at o4; obtain ⟨A4, m4, rfl, -, -, x4⟩ := own_slice o4; have C4 : Below w2.drew.heap.size w2.drew w4 := below_thn C3 b4 C3.size)
      | (go_at_call_of 19 (Value.int IntKind.i64 id); refine (num_any id _ (by have := Hid0.out; omega)).mono ?_; rintro e w5 ⟨v5, rfl, o5, b5⟩; rw [if_neg (by have := Hid0.out; omega)] at o5; obtain ⟨A5, m5, rfl, -, -, x5⟩ := own_slice o5; have C5 : Below w2.drew.heap.size w2.drew w5 := below_thn C4 b5 C4.size)
      | (go_at_call 21; refine (HT1.out _).mono ?_; rintro e w6 ⟨v6, rfl, o6, b6⟩; obtain ⟨A6, m6, rfl, -, -, x6⟩ := own_slice o6; have C6 : Below w2.drew.heap.size w2.drew w6 := below_thn C5 b6 C5.size; have HPt := Lib.hid (parts4 (c3 := m3) (c4 := m4) (c5 := m5) (c6 := m6) (Has.below (Has.below (Has.below x3 b4) (b5.mono b4.size)) (b6.mono (Nat.le_trans b4.size b5.size))) (Has.below (Has.below x4 b5) (b6.mono b5.size)) (Has.below x5 b6) x6 (Nat.le_trans b4.size (Nat.le_trans b5.size b6.size)) (Nat.le_trans b5.size b6.size) b6.size (Nat.le_refl _)))
      | (go_at_call 20; refine (join_any _ _ _ _ _ _ _ HPt.out (by simp) (by rw [HQ.out]; have := HF.out; omega) (by omega)).mono ?_; rintro e w7 ⟨v7, rfl, o7, b7⟩; obtain ⟨A7, m7, rfl, -, -, -⟩ := own_slice o7; have C7 : Below w2.drew.heap.size w2.drew w7 := below_thn (C6.alloc C6.size _) b7 (C6.alloc C6.size _).size))
    all_goals
      rw [HQ.out] at o7
      have HE : Hid (Below w.heap.size w w7 ∧ w7.ownsRow w.heap.size 5 1 (.slice A7 F.length m7) F.length (byteCells F)) := Lib.hid ⟨HD.out.2.trans (C7.mono HD.out.2.size), own_baseN o7 (Nat.le_trans HD.out.2.size (C6.alloc C6.size _).size)⟩
      rw [HQ.out]
      clear o3 o4 o5 o6 o7 b3 b4 b5 b6 b7 x3 x4 x5 x6 C3 C4 C5 C6 C7 HPt
      go_wp2
      go_ret
      exact ⟨_, rfl, HE.out.2, HE.out.1⟩
end Go.Proofs.Ytdfhnjocpfjagaa
